package seats

import (
	"math"
	"strings"
	"testing"

	"imprimatur/api"
	"imprimatur/grants"
)

// checkMay holds which permissions a session has and which it has not, and that asking changes nothing; "-" is the empty permission.
func checkMay(x room, number int, may, mayNot string) {
	x.t.Helper()
	l, last := x.s.List(), next(x.t, x.s)-1
	kept := keep(x.t, x.r, x.g)
	for range 2 {
		for i, perm := range strings.Fields(may + " " + mayNot) {
			want := i < len(strings.Fields(may))
			if got := x.s.May(x.r, number, strings.ReplaceAll(perm, "-", "")); got != want {
				x.t.Errorf("that session %d may %q is %v, of %+v", number, perm, got, l)
			}
		}
	}
	kept()
	checkSeats(x.t, x.s, last, l)
}

// chained has the roles a above b above c, and d; each of the permissions pa to pd names one of them, two names a role and one beside it, none names no role.
const chained = "role a > b;role b > c;role c;role d;user ann a d;user bob b;user cat;perm pa a;perm pb b;perm pc c;perm pd d;perm two c d;perm none;perm a d;perm ann d;lend a 1 9;lend b 1 9;lend c 1 9"

func TestMay(t *testing.T) {
	r := compiled(t, chained)
	g := lent(t, r, "ann cat b 0 0 9")
	x := roomOf(t, r, g, "ann a", "ann b", "ann c", "ann d", "ann", "ann a d", "ann c d", "bob b", "cat c", "cat")
	// The role that the rule names, those above it, and none below it.
	checkMay(x, 1, "- pa pb pc two", "pd none a ann nothing p b c d")
	checkMay(x, 2, "- pb pc two", "pa pd none a ann nothing")
	checkMay(x, 3, "- pc two", "pa pb pd none a ann nothing")
	checkMay(x, 4, "- pd two a ann", "pa pb pc none nothing")
	// Not what the user holds, but what is active: nothing here.
	checkMay(x, 5, "-", "pa pb pc pd two none a ann nothing d c")
	checkMay(x, 6, "- pa pb pc pd two a ann", "none nothing")
	checkMay(x, 7, "- pc pd two a ann", "pa pb none nothing")
	checkMay(x, 8, "- pb pc two", "pa pd none a ann nothing")
	checkMay(x, 9, "- pc two", "pa pb pd none a ann nothing")
	checkMay(x, 10, "-", "pa pb pc pd two none a ann nothing")
}

// What becomes active and what does not any more; a grant that is over counts until the role is dropped.
func TestMayNow(t *testing.T) {
	r := compiled(t, chained)
	x := roomOf(t, r, lent(t, r, "ann cat b 0 0 9"), "cat", "cat")
	checkMay(x, 1, "-", "pa pb pc")
	checkDone(x, "activate 1 b", 0, 2, "1 cat b", "2 cat")
	checkMay(x, 1, "- pb pc", "pa pd")
	checkMay(x, 2, "-", "pa pb pc pd")
	x.g.Expire(9)
	checkMay(x, 1, "- pb pc", "pa pd")
	checkPruned(x, []int{1}, "1 cat", "2 cat")
	checkMay(x, 1, "-", "pa pb pc pd")
}

// Without a session nobody may anything, for the empty permission and for another one.
func TestMayNone(t *testing.T) {
	r := compiled(t, chained)
	x := roomOf(t, r, grants.New(), "ann a d", "ann a d", "ann a d")
	checkDone(x, "close 2", 0, 3, "1 ann ad", "3 ann ad")
	for _, n := range []int{2, 0, -1, 4, 99, 1 << 32, 1<<32 + 1, math.MinInt, math.MaxInt} {
		checkMay(x, n, "", "- pa pb pc pd two none a ann nothing")
		checkMay(room{t, r, x.g, New()}, n, "", "- pa nothing")
	}
	checkMay(x, 1, "- pa", "nothing")
	checkMay(x, 3, "- pa", "nothing")
	checkDone(x, "close 3", 0, 3, "1 ann ad")
	checkMay(x, 3, "", "- pa")
	checkMay(x, 1, "- pa", "nothing \x00 Pa paa")
}

// The permission and the hierarchy are those of the rights that are asked; whose the session is does not count.
func TestMayByOtherRights(t *testing.T) {
	r := compiled(t, chained)
	x := roomOf(t, r, grants.New(), "ann a", "ann d", "bob c")
	other := x.with(compiled(t, "role a;role b > a;role c > d;role d;perm pa a;perm pb b;perm pd d;perm new c"), x.g)
	checkMay(other, 1, "- pa", "pb pc pd two new")
	checkMay(other, 2, "- pd", "pa pb pc two new")
	checkMay(other, 3, "- pd new", "pa pb pc two")
	none := x.with(compiled(t, ""), x.g)
	checkMay(none, 1, "-", "pa pb pc pd two new")
}

// The first and the last of as many roles as there may be.
func TestMayMost(t *testing.T) {
	var lines []string
	for i := range api.MaxRoles - 1 {
		lines = append(lines, "role r"+string(rune('a'+i)))
	}
	r := compiled(t, strings.Join(lines, ";")+";role last > ra;user u last ra rb;perm p ra;perm q last;perm x rb")
	x := roomOf(t, r, grants.New(), "u last", "u ra", "u rb", "u last rb")
	checkMay(x, 1, "- p q", "x")
	checkMay(x, 2, "- p", "q x")
	checkMay(x, 3, "- x", "p q")
	checkMay(x, 4, "- p q x", "last")
}
