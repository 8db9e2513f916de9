package staff

import (
	"math"
	"slices"
	"strconv"
	"strings"
	"testing"

	"imprimatur/api"
	"imprimatur/chart"
)

// Ann may write, bob may write and sign, cat may sign, dan may nothing.
const desk = "role clerk;role head;user ann clerk;user bob clerk head;user cat head;user dan;perm write clerk;perm sign head;perm none;"

func TestFindEmptyPath(t *testing.T) {
	for _, text := range []string{"", desk, office, "exclusive a b"} {
		for _, c := range []chart.Chart{{}, of("p", ""), of("p", "go/none=a"), of("", "go")} {
			checkFind(t, law(t, text), c, nil, "")
			checkFind(t, law(t, text), c, []int{}, "")
		}
	}
}

func TestFindOne(t *testing.T) {
	r := law(t, desk)
	// Nobody, one, several: the first in the order of the users.
	checkWhole(t, r, "go/none", "")
	checkWhole(t, r, "go/nothing=a", "")
	checkWhole(t, law(t, desk+"perm pay pay;role pay;user eve pay"), "go/pay", "eve")
	checkWhole(t, r, "go/write", "ann")
	checkWhole(t, r, "go/sign=a", "bob")
	// The order of their rules, not of their names, nor of the roles.
	r = law(t, "perm p a b;role b;user zoe b;role a;user ann a;user bob a b")
	checkWhole(t, r, "go/p", "zoe")
	// By a role above.
	r = law(t, "user low guest;user cat boss;user ann clerk;role guest;role boss > head;role head > clerk;role clerk > guest;perm p clerk")
	checkWhole(t, r, "go/p", "cat")
}

func TestFindNoPerm(t *testing.T) {
	r := law(t, desk)
	checkWhole(t, r, "go", "ann")
	checkWhole(t, r, "go=a", "ann")
	checkWhole(t, r, "go=a go=b go", "ann ann ann")
	checkWhole(t, law(t, "user dan;role a;user ann a"), "go", "dan")
	// There is no user at all.
	checkWhole(t, law(t, ""), "go", "")
	checkWhole(t, law(t, "role a;perm p a"), "go go/p", "")
}

func TestFindNoTask(t *testing.T) {
	r := law(t, desk+"exclusive a b c")
	checkWhole(t, r, "go go", "ann ann")
	checkWhole(t, r, "go/write go=a go/write", "ann ann ann")
	checkWhole(t, r, "go/write=a go/write go/write=b", "ann ann bob")
}

// Two unlike tasks of one list need two users, in each order, side by side or not.
func TestFindApart(t *testing.T) {
	r := law(t, desk+"exclusive a b")
	checkWhole(t, r, "go/write=a go/write=b", "ann bob")
	checkWhole(t, r, "go/write=b go/write=a", "ann bob")
	checkWhole(t, r, "go/write=a go/sign=x go/write=b", "ann bob bob")
	checkWhole(t, r, "go/write=a go/write=x go/write go/write=b", "ann ann ann bob")
	checkWhole(t, r, "go=a go=b", "ann bob")
	checkWhole(t, r, "go=a go=b go=a go=b go=b go=a", "ann bob ann bob bob ann")
	// A longer list, and several lists.
	r = law(t, desk+"exclusive x y;exclusive c a d b;exclusive y z")
	checkWhole(t, r, "go=a go=b", "ann bob")
	checkWhole(t, r, "go=b go=d go=c go=a", "ann bob cat dan")
	checkWhole(t, r, "go=z go=x go=y go=a", "ann ann bob ann")
}

func TestFindSameTask(t *testing.T) {
	r := law(t, desk+"exclusive a b")
	checkWhole(t, r, "go/write=a go/write=a", "ann ann")
	checkWhole(t, r, "go/sign=b go/sign=b go/sign=b", "bob bob bob")
	checkWhole(t, r, "go/write=a go/sign=a go/write=a", "ann bob ann")
	// In several lists.
	r = law(t, desk+"exclusive a b;exclusive a c;exclusive b a")
	checkWhole(t, r, "go=a go=a", "ann ann")
}

// Tasks that stand in two lists, but in none together, and tasks that stand in none.
func TestFindNotApart(t *testing.T) {
	r := law(t, desk+"exclusive a b;exclusive c d;exclusive b c")
	checkWhole(t, r, "go/write=a go/write=c", "ann ann")
	checkWhole(t, r, "go/write=d go/write=b", "ann ann")
	checkWhole(t, r, "go/write=a go/write=d go/write=x", "ann ann ann")
	checkWhole(t, r, "go/write=a go/write=c go/write=b", "ann ann bob")
	// Of a, b and c each is apart from b alone: that a and b are and b and c are doesn't make a and c so.
	checkWhole(t, r, "go/write=b go/write=c go/write=a", "ann bob bob")
	checkWhole(t, law(t, desk), "go/write=a go/write=b", "ann ann")
}

// Events, roles and permissions have no part in what is apart, only tasks do.
func TestFindApartByTasksAlone(t *testing.T) {
	r := law(t, desk+"exclusive write sign;exclusive go to;exclusive clerk head;exclusive ann bob")
	checkWhole(t, r, "go/write to/write", "ann ann")
	checkWhole(t, r, "go/sign to/write=sign", "bob ann")
	checkWhole(t, r, "go/write=write to/write=sign", "ann bob")
	checkWhole(t, r, "go/write=ann go/write=ann", "ann ann")
	checkWhole(t, r, "go/write=go go/write=to", "ann bob")
	// Roles that are apart are, session by session, no one's matter here.
	r = law(t, "role a;role b;user ann a b;perm p a;perm q b;dsd 2 a b")
	checkWhole(t, r, "go/p=x go/q=y", "ann ann")
}

// The first who is able cannot go on, so that an earlier choice is taken back; behind that the first list, not merely some list.
func TestFindTakesBack(t *testing.T) {
	r := law(t, desk+"exclusive a b")
	only := law(t, "role w;role s;user ann w s;user bob w;user cat w;perm write w;perm sign s;exclusive a b;exclusive c d;exclusive a e")
	// Ann alone signs b, so bob is the first who may write a.
	checkWhole(t, only, "go/write=a go/sign=b", "bob ann")
	checkWhole(t, only, "go/sign=b go/write=a", "ann bob")
	// Two choices are taken back, the one between them stays the first.
	checkWhole(t, only, "go/write=a go/write=x go/sign=b", "bob ann ann")
	checkWhole(t, only, "go/write=a go/write=c go/sign=b go/sign=d", "bob bob ann ann")
	checkWhole(t, only, "go/write=a go/write=c go go/write=a go/sign=b go/sign=d", "bob bob ann bob ann ann")
	// A list of three whose last one is the first user's alone.
	checkWhole(t, law(t, "role w;role s;user ann w s;user bob w;user cat w;perm write w;perm sign s;exclusive a b c"), "go/write=a go/write=b go/sign=c", "bob cat ann")
	// Far behind the choice that was wrong.
	checkWhole(t, only, "go/write=a go/write go/write go/write go/write go/sign=e", "bob ann ann ann ann ann")
	checkWhole(t, r, "go/sign=a go/write=b go/sign=b", "bob ann cat")
	checkWhole(t, r, "go/write=a go/sign=b", "ann bob")
}

func TestFindNone(t *testing.T) {
	r := law(t, desk+"exclusive a b")
	for _, transitions := range []string{
		"go/none go", "go go/none", "go/write go/write go/none=x", "go/none=a go/write=b",
	} {
		checkWhole(t, r, transitions, "")
	}
	// Each alone has one who is able, but there are too few.
	one := law(t, "role w;user ann w;user bob;perm write w;exclusive a b;exclusive c d e")
	checkWhole(t, one, "go/write=a", "ann")
	checkWhole(t, one, "go/write=b", "ann")
	checkWhole(t, one, "go/write=a go/write=b", "")
	checkWhole(t, one, "go/write=b go go/write=a", "")
	checkWhole(t, one, "go=c go=d", "ann bob")
	checkWhole(t, one, "go=c go=d go=e", "")
	checkWhole(t, one, "go=c go/write=d go=a go/write=b go/write=c", "")
}

func TestFindLimit(t *testing.T) {
	r := law(t, desk+"exclusive a b")
	c := of("p p", "go/write=a:0>1 go/sign=b:1>0 go/none:0>0")
	users := strings.Fields("ann bob ann bob ann bob")
	for n := range api.MaxPath + 1 {
		checkFind(t, r, c, []int{0, 1, 0, 1, 0, 1}[:n], strings.Join(users[:n], " "))
	}
	for _, n := range []int{api.MaxPath + 1, api.MaxPath + 2, 1000} {
		checkFindNone(t, r, c, make([]int, n))
		checkFindNone(t, r, c, slices.Repeat([]int{2}, n))
		checkFindNone(t, r, c, slices.Repeat([]int{-1}, n))
		checkFindNone(t, r, chart.Chart{}, make([]int, n))
	}
}

func TestFindNoTransition(t *testing.T) {
	r := law(t, desk)
	c := of("p", "go go/write go/sign")
	for _, trans := range []int{math.MinInt, math.MinInt32, -65, -2, -1, 3, 4, 5, 6, 64, api.MaxTrans, 1 << 32, 1<<32 + 1, math.MaxInt} {
		for _, path := range [][]int{{trans}, {trans, 0}, {0, trans}, {0, 1, 2, 2, 1, trans}, {trans, trans}} {
			checkFindNone(t, r, c, path)
			checkFindNone(t, law(t, ""), c, path)
			checkFindNone(t, r, chart.Chart{}, path)
		}
	}
	checkFind(t, r, c, []int{2, 0, 1}, "bob ann ann")
	checkFindNone(t, r, chart.Chart{}, []int{0})
	checkFindNone(t, r, of("p", ""), []int{0})
}

// They are anybody's: they have neither a permission nor a task.
func TestFindNotOn(t *testing.T) {
	r := law(t, desk+"exclusive a b")
	c := of("p p", "0>1 5@0>1 go/sign=a:0>1")
	checkFind(t, r, c, []int{0}, "ann")
	checkFind(t, r, c, []int{1}, "ann")
	checkFind(t, r, c, []int{1, 2, 0, 2}, "ann bob ann bob")
	checkFindNone(t, law(t, ""), c, []int{0})
	checkFindNone(t, law(t, ""), c, []int{1})
}

// Whether a document takes the path isn't asked: that is Path's.
func TestFindAsksNoState(t *testing.T) {
	r := law(t, desk+"exclusive a b")
	c := of("p p p", "go/write=a:0>1 go/write=b:1>2 go:2>0")
	checkFind(t, r, c, []int{1, 0, 0, 2, 2}, "ann bob bob ann ann")
	// Nor whether there are the states.
	checkFind(t, r, of("", "go/write=a:7>-9 go/write=b:9>9"), []int{0, 1}, "ann bob")
}

func TestFindManyUsers(t *testing.T) {
	text := "role w;role s;exclusive a b c d e f;exclusive g h;"
	for i := range api.MaxUsers {
		text += "user u" + strconv.Itoa(i) + " w"
		if i == api.MaxUsers-1 {
			text += " s"
		}
		text += ";"
	}
	r := law(t, text+"perm write w;perm sign s;perm none")
	checkWhole(t, r, "x=a x=b x=c x=d x=e x=f", "u0 u1 u2 u3 u4 u5")
	checkWhole(t, r, "x/write=f x/write=e x/write=d x/write=c x/write=b x/sign=a", "u0 u1 u2 u3 u4 u11")
	checkWhole(t, r, "x/sign=f x/write=e x/write=d x/write=c x/write=b x/write=a", "u11 u0 u1 u2 u3 u4")
	// All choices are gone through, and there is none.
	checkWhole(t, r, "x x x x x x/none", "")
	checkWhole(t, r, "x/sign=g x x x x x/sign=h", "")
	checkWhole(t, r, "x=a x=b x/sign=c x=d x=e x/sign=f", "")
	// As few users as tasks that are apart, and one too few.
	six := law(t, "role w;user f;user e;user d;user c;user b;user a w;perm write w;exclusive a b c d e f")
	checkWhole(t, six, "x=a x=b x=c x=d x=e x/write=f", "f e d c b a")
	checkWhole(t, six, "x/write=a x=b x=c x=d x=e x=f", "a f e d c b")
	checkWhole(t, law(t, "user f;user e;user d;user c;user b;exclusive a b c d e f"), "x=a x=b x=c x=d x=e x=f", "")
}

func TestFindManyTransitions(t *testing.T) {
	r := law(t, desk+"exclusive a b")
	c := of("p", strings.Repeat("go/none ", api.MaxTrans-2)+"go/write=a go/write=b")
	checkFind(t, r, c, []int{api.MaxTrans - 1, api.MaxTrans - 2}, "ann bob")
	checkFindNone(t, r, c, []int{api.MaxTrans - 1, api.MaxTrans - 3})
	checkFindNone(t, r, c, []int{api.MaxTrans})
}

// Several answers of one law and one chart share nothing.
func TestFindOwnMemory(t *testing.T) {
	r := law(t, desk)
	c := of("p", "go/write go/sign")
	first, _ := Find(r, c, []int{0, 1})
	second, _ := Find(r, c, []int{0, 1, 1})
	fill(first, "wiped")
	if !slices.Equal(second, []string{"ann", "bob", "bob"}) {
		t.Error(second)
	}
	if users := r.Users(); !slices.Equal(users, []string{"ann", "bob", "cat", "dan"}) {
		t.Error(users)
	}
}
