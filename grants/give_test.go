package grants

import (
	"math"
	"slices"
	"strconv"
	"strings"
	"testing"

	"imprimatur/api"
)

func TestGive(t *testing.T) {
	r := compiled(t, office)
	g := New()
	checkGiven(t, g, r, "ann bob a 0 7 10", "1 ann bob a 17 1 0")
	checkGiven(t, g, r, "bob cat b 0 0 50", "2 bob cat b 50 1 0")
	checkGiven(t, g, r, "bob dan b 1 8 9", "3 bob dan b 17 2 1")
	checkGiven(t, g, r, "eve ann e 0 1000 999999999", "4 eve ann e 1000000999 1 0")
	checkGiven(t, g, r, "dan zed b 3 8 4", "5 dan zed b 12 3 3")
	// An earlier now than that of the grant ahead of it.
	checkGiven(t, g, r, "cat eve c 2 3 1000", "6 cat eve c 50 2 2")
}

// Each of from, to and role by itself, and each of them what something else is called.
func TestGiveNone(t *testing.T) {
	r := compiled(t, office)
	g := given(t, r, "ann bob a 0 0 1")
	for _, user := range []string{"-", "nobody", "a", "p", "Ann", "ann,", "annn", "an", "\x00"} {
		checkRefused(t, g, r, user+" cat a 0 0 1", api.ErrNone)
		checkRefused(t, g, r, "ann "+user+" a 0 0 1", api.ErrNone)
		checkRefused(t, g, r, user+" "+user+" a 0 0 1", api.ErrNone)
		checkRefused(t, g, r, user+" cat a 1 0 1", api.ErrNone)
	}
	for _, role := range []string{"-", "nothing", "p", "ann", "zed", "A", "aa", "\x00"} {
		checkRefused(t, g, r, "ann cat "+role+" 0 0 1", api.ErrNone)
		checkRefused(t, g, r, "bob cat "+role+" 1 0 1", api.ErrNone)
	}
	checkRefused(t, New(), compiled(t, ""), "ann bob a 0 0 1", api.ErrNone)
	checkRefused(t, New(), compiled(t, "user ann;user bob"), "ann bob a 0 0 1", api.ErrNone)
	checkRefused(t, New(), compiled(t, "role a;lend a 1 1"), "ann bob a 0 0 1", api.ErrNone)
	// Each is one user and one role, whatever the other is called.
	checkGiven(t, New(), compiled(t, "role x;user x x;user y;lend x 1 9"), "x y x 0 0 9", "1 x y x 9 1 0")
}

// A user who got a grant by other rights may be none by these.
func TestGiveNoneNow(t *testing.T) {
	g := given(t, compiled(t, office), "ann bob a 0 0 9")
	checkRefused(t, g, compiled(t, "role a;user ann a;user cat;lend a 9 9"), "bob cat a 1 0 1", api.ErrNone)
	checkRefused(t, g, compiled(t, "role a;user bob a;user cat;lend a 9 9"), "ann cat a 0 0 1", api.ErrNone)
	checkRefused(t, g, compiled(t, "role b;user ann b;user bob;user cat;lend b 9 9"), "bob cat a 1 0 1", api.ErrNone)
}

func TestGiveToOneself(t *testing.T) {
	r := compiled(t, office)
	checkRefused(t, New(), r, "ann ann a 0 0 1", api.ErrArg)
	checkRefused(t, New(), r, "zed zed a 0 0 1", api.ErrArg)
	g := given(t, r, "ann bob a 0 0 50")
	checkRefused(t, g, r, "bob bob a 1 0 1", api.ErrArg)
	checkRefused(t, g, r, "bob bob c 1 0 1", api.ErrArg)
	// Back to the one whom it came from is another thing.
	checkGiven(t, g, r, "bob ann b 1 0 1", "2 bob ann b 1 2 1")
}

// A time of 0, of 1, of the Loan's Time and one above it, of several Loans.
func TestGiveForTime(t *testing.T) {
	r := compiled(t, office)
	g := given(t, r, "ann bob a 0 0 50")
	for _, who := range []string{"ann cat a 0 5 ", "bob cat a 1 5 "} {
		for time, want := range map[int]api.Errno{math.MinInt: api.ErrArg, -100: api.ErrArg, -1: api.ErrArg, 0: api.ErrArg, 1: 0, 2: 0, 99: 0, 100: 0, 101: api.ErrArg, 1000: api.ErrArg, 1 << 30: api.ErrArg, 1 << 40: api.ErrArg, math.MaxInt: api.ErrArg} {
			checkTold(t, g, r, who+strconv.Itoa(time), want)
		}
	}
	for role, most := range map[string]int{"a": 100, "b": 50, "c": 1000, "d": 20} {
		checkTold(t, g, r, "ann cat "+role+" 0 0 "+strconv.Itoa(most), 0)
		checkTold(t, g, r, "ann cat "+role+" 0 0 "+strconv.Itoa(most+1), api.ErrArg)
		checkTold(t, g, r, "bob cat "+role+" 0 0 "+strconv.Itoa(most+1), api.ErrArg)
		checkTold(t, g, r, "bob cat "+role+" 9 0 "+strconv.Itoa(most+1), api.ErrArg)
	}
	checkTold(t, g, r, "eve cat e 0 0 999999999", 0)
	checkTold(t, g, r, "eve cat e 0 0 1000000000", api.ErrArg)
	// The time is the whole one that is asked for, not what the way leaves of it.
	checkTold(t, g, r, "bob cat a 1 49 100", 0)
	checkTold(t, g, r, "bob cat a 1 49 101", api.ErrArg)
}

func TestGiveNow(t *testing.T) {
	r := compiled(t, office)
	g := given(t, r, "ann bob a 0 max-1 1")
	for _, who := range []string{"ann cat a 0 ", "bob cat a 1 "} {
		for now, want := range map[int]api.Errno{math.MinInt: api.ErrArg, -1 << 40: api.ErrArg, -2: api.ErrArg, -1: api.ErrArg, 0: 0, 1: 0, api.MaxTime - 1: 0, api.MaxTime: api.ErrTime, api.MaxTime + 1: api.ErrArg, 1 << 40: api.ErrArg, math.MaxInt: api.ErrArg} {
			checkTold(t, g, r, who+strconv.Itoa(now)+" 1", want)
		}
	}
	checkGiven(t, g, r, "ann cat a 0 0 1", "2 ann cat a 1 1 0")
	checkGiven(t, g, r, "eve cat e 0 0 1", "3 eve cat e 1 1 0")
}

// A role without a Loan has no time that is too long, but is not lent at all.
func TestGiveWithoutLoan(t *testing.T) {
	r := compiled(t, office)
	for _, rest := range []string{" 0 0 1", " 0 0 999999999", " 0 5 1073741824", " 0 5 9223372036854775807", " 0 max 9223372036854775807", " 0 max 1"} {
		checkRefused(t, New(), r, "ann bob f"+rest, api.ErrDenied)
	}
	for _, rest := range []string{" 0 0 0", " 0 0 -1", " 0 -1 1", " 0 max+1 1", " 0 9223372036854775807 9223372036854775807", " 0 -9223372036854775808 -9223372036854775808"} {
		checkRefused(t, New(), r, "ann bob f"+rest, api.ErrArg)
	}
	checkRefused(t, New(), r, "ann ann f 0 0 1", api.ErrArg)
	// Not by way of a grant, either: of a role above it, or of itself by rights that lent it.
	g := given(t, compiled(t, "role a > f;role f;user ann a;user bob;user cat;lend a 9 9;lend f 9 9"), "ann bob f 0 0 9", "ann bob a 0 0 9")
	without := compiled(t, "role a > f;role f;user ann a;user bob;user cat;lend a 9 9")
	checkRefused(t, g, without, "bob cat f 1 0 1", api.ErrDenied)
	checkRefused(t, g, without, "bob cat f 2 0 1", api.ErrDenied)
	checkRefused(t, g, without, "ann cat f 0 0 1", api.ErrDenied)
	checkTold(t, g, without, "bob cat a 2 0 1", 0)
}

// Without a way: what the rule of from names and all below it, not what is above it, nor what from has by a grant alone.
func TestGiveByRule(t *testing.T) {
	r := compiled(t, office)
	g := given(t, r, "ann cat b 0 0 5", "eve cat e 0 0 5", "ann bob a 0 0 5")
	for text, want := range map[string]api.Errno{
		"ann zed a": 0, "ann zed b": 0, "ann zed c": 0, "ann zed d": 0, "ann zed e": api.ErrDenied, "ann zed f": api.ErrDenied,
		"bob zed a": api.ErrDenied, "bob zed b": 0, "bob zed c": 0, "bob zed d": 0, "bob zed e": api.ErrDenied,
		"cat zed a": api.ErrDenied, "cat zed b": api.ErrDenied, "cat zed c": api.ErrDenied, "cat zed d": api.ErrDenied, "cat zed e": api.ErrDenied,
		"eve zed e": 0, "eve zed d": api.ErrDenied, "zed eve a": api.ErrDenied, "zed eve d": api.ErrDenied,
	} {
		checkTold(t, g, r, text+" 0 0 1", want)
	}
	// The last role that there may be, above the first one.
	var lines []string
	for i := range api.MaxRoles - 1 {
		lines = append(lines, "role r"+strconv.Itoa(i))
	}
	wide := compiled(t, strings.Join(lines, ";")+";role last > r0;user x last;user y r0;lend last 1 9;lend r0 1 9")
	checkGiven(t, New(), wide, "x y last 0 0 9", "1 x y last 9 1 0")
	checkGiven(t, New(), wide, "x y r0 0 0 9", "1 x y r0 9 1 0")
	checkRefused(t, New(), wide, "y x last 0 0 9", api.ErrDenied)
}

func TestGiveByWay(t *testing.T) {
	r := compiled(t, office)
	g := given(t, r, "ann bob a 0 0 5", "ann cat b 0 0 5", "ann dan c 0 0 5", "eve cat e 0 0 5", "ann eve d 0 0 5")
	for text, want := range map[string]api.Errno{
		// No such grant.
		"bob zed a 6": api.ErrDenied, "bob zed a -1": api.ErrDenied, "bob zed b 99": api.ErrDenied, "ann zed a -9223372036854775808": api.ErrDenied, "ann zed a 9223372036854775807": api.ErrDenied, "bob zed b -1": api.ErrDenied,
		// A grant to somebody else, whoever gave it.
		"ann zed a 1": api.ErrDenied, "cat zed a 1": api.ErrDenied, "ann zed b 2": api.ErrDenied, "bob zed b 2": api.ErrDenied, "zed dan c 3": api.ErrDenied,
		// Of the role itself, of one above it, of one below it, of one that is neither.
		"bob zed a 1": 0, "bob zed b 1": 0, "bob zed c 1": 0, "bob zed d 1": api.ErrDenied, "bob zed e 1": api.ErrDenied,
		"cat zed a 2": api.ErrDenied, "cat zed b 2": 0, "cat zed c 2": 0, "cat zed e 2": api.ErrDenied, "dan zed b 3": api.ErrDenied, "dan zed c 3": 0,
		"cat zed c 4": api.ErrDenied, "cat zed b 4": api.ErrDenied,
	} {
		checkTold(t, g, r, text+" 0 1", want)
	}
	// A grant that was there once.
	if err := g.Revoke(1, "ann"); err != nil {
		t.Fatal(err)
	}
	checkRefused(t, g, r, "bob zed a 1 0 1", api.ErrDenied)
	g.Expire(5)
	checkRefused(t, g, r, "cat zed b 2 0 1", api.ErrDenied)
}

// What from has by its rule is nothing to a way, nor has a grant of more roles than one to be the greater.
func TestGiveByWayAlone(t *testing.T) {
	r := compiled(t, office)
	g := given(t, r, "ann bob c 0 0 9", "ann bob a 0 0 9")
	checkRefused(t, g, r, "bob cat b 1 0 1", api.ErrDenied)
	checkGiven(t, g, r, "bob cat b 0 0 1", "3 bob cat b 1 1 0")
	checkGiven(t, g, r, "bob dan b 2 0 1", "4 bob dan b 1 2 2")
	// By other rights, the way's role may be none, and be above nothing.
	other := compiled(t, "role b > c;role c;role d;user bob d;user zed;user cat;lend b 9 9;lend c 9 9;lend d 9 9")
	checkRefused(t, g, other, "bob zed b 2 0 1", api.ErrDenied)
	checkRefused(t, g, other, "bob zed c 2 0 1", api.ErrDenied)
	checkTold(t, g, other, "bob zed c 1 0 1", 0)
	checkTold(t, g, other, "cat zed c 3 0 1", 0)
	checkTold(t, g, other, "cat zed b 3 0 1", 0)
}

// The Depth that the Loan just allows, and one more: it is that of the role that is lent, not that of the way's.
func TestGiveDepth(t *testing.T) {
	for depth := 1; depth <= 4; depth++ {
		r := compiled(t, "role a > b;role b;user u0 a;user u1;user u2;user u3;user u4;user u5;lend a 9 9;lend b "+strconv.Itoa(depth)+" 9")
		g := given(t, r, "u0 u1 a 0 0 9")
		for i := 1; i <= 4; i++ {
			hand := "u" + strconv.Itoa(i) + " u" + strconv.Itoa(i+1)
			rest := " " + strconv.Itoa(i) + " 0 9"
			low := hand + " b" + rest
			if i+1 <= depth {
				checkTold(t, g, r, low, 0)
			} else {
				checkRefused(t, g, r, low, api.ErrDenied)
			}
			checkGiven(t, g, r, hand+" a"+rest, strconv.Itoa(i+1)+" "+hand+" a 9 "+strconv.Itoa(i+1)+" "+strconv.Itoa(i))
		}
		// Without a way it begins anew.
		checkTold(t, g, r, "u0 u5 b 0 0 9", 0)
	}
}

// Rights with a smaller Depth say no to the next hand, whatever hands there were.
func TestGiveDepthNow(t *testing.T) {
	g := given(t, compiled(t, office), "ann cat b 0 0 9", "cat dan b 1 0 9", "dan zed b 2 0 9")
	for depth, want := range map[string]api.Errno{"1": api.ErrDenied, "2": api.ErrDenied, "3": api.ErrDenied, "4": 0} {
		r := compiled(t, "role b;user zed;user bob;lend b "+depth+" 9")
		checkTold(t, g, r, "zed bob b 3 0 9", want)
	}
}

func TestGiveEndOfTime(t *testing.T) {
	r := compiled(t, office)
	checkGiven(t, New(), r, "ann bob a 0 max-1 1", "1 ann bob a max 1 0")
	checkGiven(t, New(), r, "ann bob a 0 max-100 100", "1 ann bob a max 1 0")
	checkGiven(t, New(), r, "eve bob e 0 max-999999999 999999999", "1 eve bob e max 1 0")
	for _, rest := range []string{"ann bob a 0 max 1", "ann bob a 0 max-1 2", "ann bob a 0 max-99 100", "eve bob e 0 max-999999998 999999999", "eve bob e 0 max 999999999"} {
		checkRefused(t, New(), r, rest, api.ErrTime)
	}
	// The sum counts, though the way's Until is smaller.
	g := given(t, r, "ann bob a 0 0 9")
	checkRefused(t, g, r, "bob cat a 1 max 1", api.ErrTime)
	checkRefused(t, g, r, "bob cat a 1 max-99 100", api.ErrTime)
	checkGiven(t, g, r, "bob cat a 1 max-100 100", "2 bob cat a 9 2 1")
}

func TestGiveThere(t *testing.T) {
	r := compiled(t, office)
	g := given(t, r, "ann cat b 0 5 9", "ann dan a 0 5 10")
	for text, want := range map[string]api.Errno{
		// From the same, from another, by way of a grant, and when that there is over.
		"ann cat b 0 5 9": api.ErrThere, "ann cat b 0 0 1": api.ErrThere, "bob cat b 0 5 9": api.ErrThere, "dan cat b 2 5 9": api.ErrThere, "ann cat b 0 14 1": api.ErrThere, "bob cat b 0 999 1": api.ErrThere,
		// Another role to the same, above it or below it, and the role to somebody else, to the one who gave it, too.
		"ann cat a 0 5 9": 0, "ann cat c 0 5 9": 0, "bob cat d 0 5 9": 0, "eve cat e 0 5 9": 0, "ann zed b 0 5 9": 0, "cat zed b 1 5 9": 0, "ann bob b 0 5 9": 0, "cat ann b 1 5 9": 0, "dan ann a 2 5 9": 0,
	} {
		checkTold(t, g, r, text, want)
	}
	// A role that one has by the rule may be lent all the same.
	checkGiven(t, g, r, "ann bob b 0 5 9", "3 ann bob b 14 1 0")
	checkRefused(t, g, r, "ann bob b 0 5 9", api.ErrThere)
	// When it is gone, it can be given again.
	if err := g.Revoke(1, "ann"); err != nil {
		t.Fatal(err)
	}
	checkGiven(t, g, r, "bob cat b 0 6 7", "4 bob cat b 13 1 0")
	g.Expire(12)
	checkRefused(t, g, r, "ann cat b 0 12 9", api.ErrThere)
	g.Expire(13)
	checkGiven(t, g, r, "ann cat b 0 13 9", "5 ann cat b 22 1 0")
}

// manyUsers has enough users for MaxGrants grants of s, of t and of u, which each of them may give; zed is only given to.
func manyUsers(t *testing.T) (lines string, asks []string) {
	t.Helper()
	lines = "role s;role t;role u;lend s 9 9;lend t 9 9;lend u 9 9;user zed;user x s t u"
	for i := range api.MaxUsers - 2 {
		user := "u" + strconv.Itoa(i)
		lines += ";user " + user
		asks = append(asks, "x "+user+" s 0 0 9", "x "+user+" t 0 0 "+strconv.Itoa(1+i%9))
	}
	if len(asks) < api.MaxGrants {
		t.Fatalf("%d grants are not enough", len(asks))
	}
	return lines, asks[:api.MaxGrants]
}

func TestGiveLimit(t *testing.T) {
	lines, asks := manyUsers(t)
	r := compiled(t, lines)
	g := given(t, r, asks[:api.MaxGrants-1]...)
	checkTold(t, g, r, "x zed s 0 0 9", 0)
	checkTold(t, g, r, "u0 zed s 1 0 9", 0)
	g = given(t, r, asks...)
	checkRefused(t, g, r, "x zed s 0 0 9", api.ErrLimit)
	checkRefused(t, g, r, "u0 zed s 1 0 9", api.ErrLimit)
	checkRefused(t, g, r, "x u0 u 0 0 9", api.ErrLimit)
	checkRefused(t, g, r, "x zed s 0 99 1", api.ErrLimit)
	// It is the grants that there are that count, not those that were.
	if err := g.Revoke(7, "x"); err != nil {
		t.Fatal(err)
	}
	checkGiven(t, g, r, "u0 zed s 1 0 9", strconv.Itoa(api.MaxGrants+1)+" u0 zed s 9 2 1")
	checkRefused(t, g, r, "x zed t 0 0 9", api.ErrLimit)
	if over := g.Expire(1); len(over) != 2 {
		t.Fatalf("%v are over", over)
	}
	checkGiven(t, g, r, "x zed t 0 0 9", strconv.Itoa(api.MaxGrants+2)+" x zed t 9 1 0")
	checkGiven(t, g, r, "x zed u 0 0 9", strconv.Itoa(api.MaxGrants+3)+" x zed u 9 1 0")
	checkRefused(t, g, r, "x u0 u 0 0 9", api.ErrLimit)
}

// Role a is above c and d, b above c; boss has just the role that is lent.
func TestGiveDuty(t *testing.T) {
	const roles = "role a > c d;role b > c;role c;role d;role e;role f;lend a 9 9;lend b 9 9;lend c 9 9;lend d 9 9;lend e 9 9;lend f 9 9;"
	for _, x := range []struct {
		sets, has, role string
		want            api.Errno
	}{
		// By the role itself with one that the user has, either way round.
		{"ssd 2 b d", "d", "b", api.ErrDuty}, {"ssd 2 b d", "b", "d", api.ErrDuty}, {"ssd 2 e f", "e", "f", api.ErrDuty}, {"ssd 2 b f", "d", "b", 0}, {"ssd 2 d f", "d", "b", 0},
		// By what is below the role, and below what the user has.
		{"ssd 2 c d", "d", "b", api.ErrDuty}, {"ssd 2 c e", "e", "a", api.ErrDuty}, {"ssd 2 c e", "b", "e", api.ErrDuty}, {"ssd 2 b d", "a", "b", api.ErrDuty}, {"ssd 2 d e", "e", "b", 0},
		// What is above them does not count.
		{"ssd 2 a e", "e", "c", 0}, {"ssd 2 b e", "c", "e", 0}, {"ssd 2 a b", "b", "c", 0}, {"ssd 2 a b", "", "c", 0},
		// As many as the set names, and one fewer; what is below counts with what is named.
		{"ssd 3 c d e", "d", "c", 0}, {"ssd 3 c d e", "d e", "c", api.ErrDuty}, {"ssd 3 b c d", "d", "b", api.ErrDuty}, {"ssd 3 c d e", "e", "a", api.ErrDuty}, {"ssd 4 b c d e", "d", "b", 0}, {"ssd 4 b c d e", "d e", "b", api.ErrDuty},
		// Each set by itself, the first, one among others and the last.
		{"ssd 2 b d;ssd 2 a f;ssd 2 e f", "d", "b", api.ErrDuty}, {"ssd 2 a f;ssd 2 b d;ssd 2 e f", "d", "b", api.ErrDuty}, {"ssd 2 a f;ssd 2 e f;ssd 2 b d", "d", "b", api.ErrDuty}, {"ssd 2 a f;ssd 2 d f;ssd 2 e f", "d", "b", 0},
		// What is to be apart in a session, or of tasks, is nothing to a grant.
		{"dsd 2 b d", "d", "b", 0}, {"dsd 2 c d;exclusive b d", "d", "b", 0},
		// A role that the user has already, or is below or above one of them.
		{"ssd 2 c e", "c", "c", 0}, {"ssd 2 c e", "b", "c", 0}, {"ssd 2 c e", "c", "b", 0},
	} {
		r := compiled(t, roles+"user boss "+x.role+";user one "+x.has+";"+x.sets)
		checkTold(t, New(), r, "boss one "+x.role+" 0 0 1", x.want)
	}
}

const strict = "role a > c;role b > d;role c;role d;role e;lend a 9 9;lend b 9 9;lend c 9 9;lend d 9 9;lend e 9 9;user ann a b;user eve e;user low d;user mid;user new;ssd 2 c e;ssd 2 d e"

// What a user got by grants counts with what the rule names, until it is gone.
func TestGiveDutyByGrants(t *testing.T) {
	r := compiled(t, strict)
	g := given(t, r, "ann new a 0 0 5")
	checkRefused(t, g, r, "eve new e 0 0 9", api.ErrDuty)
	checkRefused(t, g, r, "eve low e 0 0 9", api.ErrDuty)
	checkRefused(t, g, r, "new eve c 1 0 9", api.ErrDuty)
	checkRefused(t, g, r, "new eve a 1 0 9", api.ErrDuty)
	checkGiven(t, g, r, "new mid c 1 0 9", "2 new mid c 5 2 1")
	checkTold(t, g, r, "new mid a 1 0 9", 0)
	checkTold(t, g, r, "ann mid b 0 0 9", 0)
	// It counts as long as it is there, though it is over.
	checkRefused(t, g, r, "eve mid e 0 7 9", api.ErrDuty)
	if err := g.Revoke(2, "new"); err != nil {
		t.Fatal(err)
	}
	checkTold(t, g, r, "eve mid e 0 7 9", 0)
	checkRefused(t, g, r, "eve new e 0 7 9", api.ErrDuty)
	g.Expire(5)
	checkGiven(t, g, r, "eve new e 0 7 9", "3 eve new e 16 1 0")
	checkRefused(t, g, r, "ann new c 0 7 9", api.ErrDuty)
}

// By rights that came later: a grant that breaks duties by itself, and duties of somebody else, which are nothing to it.
func TestGiveDutyNow(t *testing.T) {
	loose := compiled(t, strings.Split(strict, ";ssd")[0])
	g := given(t, loose, "ann mid a 0 0 9", "eve mid e 0 0 9")
	checkGiven(t, g, compiled(t, strict), "eve new e 0 0 9", "3 eve new e 9 1 0")
	checkRefused(t, g, compiled(t, strict), "ann mid c 0 0 9", api.ErrDuty)
	alone := compiled(t, "role a > c;role c;lend a 9 9;lend c 9 9;user mid;user new;ssd 2 a c")
	checkRefused(t, g, alone, "mid new a 1 0 9", api.ErrDuty)
	checkTold(t, g, alone, "mid new c 1 0 9", 0)
}

// All ways in which the seven errors may come together: the first one of them is told.
func TestGiveErrorsInOrder(t *testing.T) {
	errs := []api.Errno{api.ErrNone, api.ErrArg, api.ErrDenied, api.ErrTime, api.ErrThere, api.ErrLimit, api.ErrDuty}
	lines, asks := manyUsers(t)
	loose := compiled(t, lines)
	broken := compiled(t, strings.Replace(lines, "user zed", "role v;ssd 2 u v;user zed v", 1))
	for flaws := range 1 << len(errs) {
		is := func(err api.Errno) bool { return flaws>>slices.Index(errs, err)&1 == 1 }
		pick := func(err api.Errno, flaw, plain string) string {
			if is(err) {
				return flaw
			}
			return plain
		}
		l := slices.Clone(asks)
		if !is(api.ErrLimit) {
			l = l[:3]
		}
		if is(api.ErrThere) {
			l[len(l)-1] = "x zed u 0 0 9"
		}
		r := loose
		if is(api.ErrDuty) {
			r = broken
		}
		want := api.Errno(0)
		if flaws != 0 {
			want = errs[slices.IndexFunc(errs, is)]
		}
		text := pick(api.ErrNone, "nobody", "x") + " zed u " + pick(api.ErrDenied, "99 ", "0 ") + pick(api.ErrTime, "max ", "5 ") + pick(api.ErrArg, "10", "9")
		checkTold(t, given(t, loose, l...), r, text, want)
	}
}

// Two of neighbouring steps at a time, in more than one way.
func TestGiveTwoErrors(t *testing.T) {
	r := compiled(t, office+";ssd 2 a e")
	g := given(t, r, "ann cat b 0 0 9", "eve dan e 0 0 9")
	for text, want := range map[string]api.Errno{
		"nobody nobody a 0 0 1": api.ErrNone, "ann nobody a 0 0 0": api.ErrNone, "ann cat none 0 -1 1": api.ErrNone, "nobody cat a 0 0 101": api.ErrNone, "ann ann none 0 0 1": api.ErrNone,
		"cat cat e 0 0 1": api.ErrArg, "cat zed a 0 0 0": api.ErrArg, "cat zed a 0 0 101": api.ErrArg, "ann zed f 0 -1 1": api.ErrArg, "ann zed f 0 max+1 1": api.ErrArg, "cat zed b 9 0 51": api.ErrArg, "cat zed a 1 max+1 1": api.ErrArg, "cat cat b 1 0 1": api.ErrArg,
		"cat zed a 0 max 1": api.ErrDenied, "ann zed f 0 max 1": api.ErrDenied, "cat zed b 2 max 1": api.ErrDenied, "cat zed a 1 max 1": api.ErrDenied, "ann zed f 0 1 1073741824": api.ErrDenied,
		"ann cat b 0 max 1": api.ErrTime, "bob cat b 0 max-49 50": api.ErrTime, "dan cat b 2 max 1": api.ErrDenied, "dan cat b 0 0 1": api.ErrDenied, "bob dan e 0 0 1": api.ErrDenied,
		"ann eve a 0 max 1": api.ErrTime, "ann eve a 0 0 1": api.ErrDuty, "ann dan a 0 0 1": api.ErrDuty, "ann dan b 0 0 1": 0,
	} {
		checkTold(t, g, r, text, want)
	}
}

// The greatest number ever used counts, be it gone; what is refused uses none.
func TestNumbers(t *testing.T) {
	r := compiled(t, office)
	g := New()
	checkGiven(t, g, r, "ann bob a 0 0 9", "1 ann bob a 9 1 0")
	checkGiven(t, g, r, "ann cat a 0 0 5", "2 ann cat a 5 1 0")
	checkRefused(t, g, r, "ann cat a 0 0 5", api.ErrThere)
	if err := g.Revoke(2, "ann"); err != nil {
		t.Fatal(err)
	}
	checkState(t, g, 2, grantsOf("1 ann bob a 9 1 0"))
	checkGiven(t, g, r, "ann cat a 0 0 5", "3 ann cat a 5 1 0")
	g.Expire(5)
	checkState(t, g, 3, grantsOf("1 ann bob a 9 1 0"))
	checkGiven(t, g, r, "ann cat a 0 0 5", "4 ann cat a 5 1 0")
	checkRefused(t, g, r, "cat dan a 3 0 5", api.ErrDenied)
	checkGiven(t, g, r, "cat dan a 4 0 9", "5 cat dan a 5 2 4")
	if err := g.Revoke(1, "ann"); err != nil {
		t.Fatal(err)
	}
	g.Expire(math.MaxInt)
	checkState(t, g, 5, nil)
	for i := 6; i < 100; i++ {
		n := strconv.Itoa(i)
		checkGiven(t, g, r, "ann bob a 0 "+n+" 1", n+" ann bob a "+strconv.Itoa(i+1)+" 1 0")
		g.Expire(i + 1)
	}
}

// Until is at most that of the way, whatever time is asked for.
func TestUntil(t *testing.T) {
	r := compiled(t, office)
	g := given(t, r, "ann bob a 0 10 20")
	for i, text := range []string{"bob cat a 1 10 19=29", "bob dan a 1 10 20=30", "bob zed a 1 10 21=30", "bob eve a 1 0 29=29", "bob cat b 1 0 30=30", "bob dan b 1 0 31=30", "bob zed b 1 29 1=30", "bob eve b 1 29 2=30", "bob cat c 1 30 1=30", "bob dan c 1 31 1=30", "bob zed c 1 max-1 1=30", "bob eve c 1 0 1=1"} {
		hand, until, _ := strings.Cut(text, "=")
		w := strings.Fields(hand)
		checkGiven(t, g, r, hand, strings.Join([]string{strconv.Itoa(i + 2), w[0], w[1], w[2], until, "2", "1"}, " "))
	}
	// By way of one that is by way of one.
	checkGiven(t, g, r, "cat ann b 2 0 50", "14 cat ann b 29 3 2")
}
