package seats

import (
	"errors"
	"strconv"
	"strings"
	"testing"

	"imprimatur/api"
	"imprimatur/grants"
)

// A role of the user's rule, those below it, one by a grant, those below that one; none above them, none beside them.
func TestActivate(t *testing.T) {
	r := compiled(t, office)
	g := lent(t, r, "ann cat b 0 0 9", "dan bob e 0 0 9", "cat zed c 1 0 9")
	users := []string{"ann", "bob", "cat", "dan", "zed"}
	x := roomOf(t, r, g, users...)
	for i, holds := range []string{"abcd", "bce", "bc", "def", "c"} {
		for _, role := range []string{"a", "b", "c", "d", "e", "f"} {
			text := "activate " + strconv.Itoa(i+1) + " " + role
			if !strings.Contains(holds, role) {
				checkRefused(x, text, api.ErrDenied)
				continue
			}
			want := []string{"1 ann", "2 bob", "3 cat", "4 dan", "5 zed"}
			want[i] += " " + role
			checkDone(x.copied(), text, 0, 5, want...)
		}
	}
}

// One behind the other, in several sessions: each has its own.
func TestActivateOnAndOn(t *testing.T) {
	r := compiled(t, office)
	x := roomOf(t, r, lent(t, r, "ann cat c 0 0 9"), "ann", "cat", "ann", "dan")
	checkDone(x, "activate 3 b", 0, 4, "1 ann", "2 cat", "3 ann b", "4 dan")
	// One above an active one, and those below: they were not active with it.
	checkDone(x, "activate 3 a", 0, 4, "1 ann", "2 cat", "3 ann ab", "4 dan")
	checkDone(x, "activate 3 c", 0, 4, "1 ann", "2 cat", "3 ann abc", "4 dan")
	checkDone(x, "activate 1 b", 0, 4, "1 ann b", "2 cat", "3 ann abc", "4 dan")
	checkDone(x, "activate 2 c", 0, 4, "1 ann b", "2 cat c", "3 ann abc", "4 dan")
	checkDone(x, "activate 4 f", 0, 4, "1 ann b", "2 cat c", "3 ann abc", "4 dan f")
	checkDone(x, "activate 4 d", 0, 4, "1 ann b", "2 cat c", "3 ann abc", "4 dan df")
	checkDone(x, "close 1", 0, 4, "2 cat c", "3 ann abc", "4 dan df")
	checkDone(x, "activate 4 e", 0, 4, "2 cat c", "3 ann abc", "4 dan def")
	checkDone(x, "activate 3 d", 0, 4, "2 cat c", "3 ann abcd", "4 dan def")
}

// As many roles as there may be, the last one among them.
func TestActivateMost(t *testing.T) {
	text, names := "", ""
	for i := range api.MaxRoles {
		text += "role r" + strconv.Itoa(i) + ";"
		names += " r" + strconv.Itoa(i)
	}
	r := compiled(t, text+"user u"+names)
	x := roomOf(t, r, grants.New(), "u", "u")
	letters := ""
	for i := api.MaxRoles - 1; i >= 0; i-- {
		letters = string(rune('a'+i)) + letters
		checkDone(x, "activate 2 r"+strconv.Itoa(i), 0, 2, "1 u", "2 u "+letters)
	}
	for i := range api.MaxRoles {
		checkRefused(x, "activate 2 r"+strconv.Itoa(i), api.ErrThere)
	}
	for i := range api.MaxRoles {
		letters = letters[1:]
		checkDone(x, "drop 2 r"+strconv.Itoa(i), 0, 2, "1 u", "2 u "+letters)
	}
}

var noSession = []string{"0", "-1", "2", "5", "99", "4294967296", "4294967297", "-9223372036854775808", "9223372036854775807"}

// gapped has sessions 1, 3 and 4: session 2 is closed.
func gapped(t *testing.T) room {
	t.Helper()
	r := compiled(t, office)
	x := roomOf(t, r, lent(t, r, "ann cat b 0 0 9"), "ann a", "bob b", "cat c", "dan d e")
	checkDone(x, "close 2", 0, 4, "1 ann a", "3 cat c", "4 dan de")
	return x
}

func TestActivateNone(t *testing.T) {
	x := gapped(t)
	empty := roomOf(t, x.r, x.g)
	for _, n := range noSession {
		for _, role := range []string{"a", "b", "c", "d", "e", "f", "nothing", "-"} {
			checkRefused(x, "activate "+n+" "+role, api.ErrNone)
			checkRefused(empty, "activate "+n+" "+role, api.ErrNone)
		}
	}
	for _, role := range []string{"-", "nothing", "p", "q", "ann", "cat", "none", "A", "aa", "g", "\x00"} {
		for _, n := range []string{"1", "3", "4"} {
			checkRefused(x, "activate "+n+" "+role, api.ErrNone)
		}
	}
	// A role is none by rights that do not name it, be it held or active by others.
	other := x.with(compiled(t, "role b;user ann b;user cat b"), x.g)
	for _, text := range []string{"activate 1 a", "activate 1 c", "activate 3 c", "activate 4 f"} {
		checkRefused(other, text, api.ErrNone)
	}
	checkRefused(x.with(compiled(t, ""), grants.New()), "activate 1 a", api.ErrNone)
}

func TestActivateThere(t *testing.T) {
	x := gapped(t)
	for _, text := range []string{"activate 1 a", "activate 3 c", "activate 4 d", "activate 4 e"} {
		checkRefused(x, text, api.ErrThere)
	}
	// What is active in another session is not active in this one, nor is what an active one is above.
	checkTold(x, "activate 1 c", 0)
	checkTold(x, "activate 1 d", 0)
	checkTold(x, "activate 1 b", 0)
	checkTold(x, "activate 3 b", 0)
	checkDone(x, "open ann", 5, 5, "1 ann a", "3 cat c", "4 dan de", "5 ann")
	checkDone(x, "activate 5 a", 0, 5, "1 ann a", "3 cat c", "4 dan de", "5 ann a")
	checkRefused(x, "activate 5 a", api.ErrThere)
	// A role that is dropped is not active any more.
	checkDone(x, "drop 1 a", 0, 5, "1 ann", "3 cat c", "4 dan de", "5 ann a")
	checkDone(x, "activate 1 a", 0, 5, "1 ann a", "3 cat c", "4 dan de", "5 ann a")
	checkRefused(x, "activate 1 a", api.ErrThere)
}

// Nobody has what somebody else holds, nor what is held no more.
func TestActivateDenied(t *testing.T) {
	r := compiled(t, office)
	g := lent(t, r, "ann cat b 0 0 9", "dan zed f 0 0 5", "cat zed c 1 0 9")
	x := roomOf(t, r, g, "ann a", "bob b", "cat", "dan f", "zed")
	for text, want := range map[string]api.Errno{
		"1 b": 0, "1 e": api.ErrDenied, "1 f": api.ErrDenied, "2 a": api.ErrDenied, "2 d": api.ErrDenied, "2 f": api.ErrDenied,
		"3 a": api.ErrDenied, "3 b": 0, "3 c": 0, "3 f": api.ErrDenied, "4 a": api.ErrDenied, "4 c": api.ErrDenied,
		"5 a": api.ErrDenied, "5 b": api.ErrDenied, "5 c": 0, "5 d": api.ErrDenied, "5 e": api.ErrDenied, "5 f": 0,
	} {
		checkTold(x, "activate "+text, want)
	}
	g.Expire(4)
	checkTold(x, "activate 5 f", 0)
	g.Expire(5)
	checkRefused(x, "activate 5 f", api.ErrDenied)
	if err := g.Revoke(1, "ann"); err != nil {
		t.Fatal(err)
	}
	for _, text := range []string{"3 b", "3 c", "5 c"} {
		checkRefused(x, "activate "+text, api.ErrDenied)
	}
	// By other grants and rights: what is held by these.
	checkTold(x.with(r, lent(t, r, "ann cat a 0 0 1")), "activate 3 a", 0)
	checkTold(x.with(compiled(t, "role x > e;role e;user zed x"), g), "activate 5 e", 0)
	checkTold(x.with(compiled(t, "role x > e;role e;user ann x"), g), "activate 5 e", api.ErrDenied)
	// A user whom the rights do not name holds what grants give.
	other := x.with(compiled(t, "role b > y;role y;role a"), lent(t, r, "ann cat b 0 0 9"))
	checkTold(other, "activate 3 y", 0)
	checkTold(other, "activate 3 a", api.ErrDenied)
	checkTold(other, "activate 5 y", api.ErrDenied)
}

// dutied is roles of which sets may not be active together: a is above b, e above c.
const dutied = "role a > b;role b;role c;role d;role e > c;role f;user ann a b c d e f;user bob a c;user cat;dsd 2 b c;dsd 3 a c d;dsd 4 a d e f;lend a 1 9;lend b 1 9;lend c 1 9;lend d 1 9"

func TestActivateDuty(t *testing.T) {
	r := compiled(t, dutied)
	for text, want := range map[string]api.Errno{
		// One short of a set, just as many as it names, and one more of a set that is not broken by others.
		"b + c": api.ErrDuty, "c + b": api.ErrDuty, "b + a": 0, "b + d": 0, "c + f": 0,
		"a + c": 0, "a + d": 0, "a c + d": api.ErrDuty, "a d + c": api.ErrDuty, "c d + a": api.ErrDuty, "a c + f": 0,
		"a d + e": 0, "a d e + f": api.ErrDuty, "a d f + e": api.ErrDuty, "a e f + d": api.ErrDuty, "d e f + a": api.ErrDuty, "a e + f": 0, "d e f + b": 0, "d e f + c": 0,
		// Roles below an active one do not count: a is above b, e above c.
		"a + e": 0, "e + a": 0, "a e + d": 0, "b + e": 0, "e + b": 0, "e + c": 0, "a e d + b": 0, "a e d + c": api.ErrDuty, "a e f + b": 0, "a e b + c": api.ErrDuty,
		// Each of several sets is asked: two are broken, or the first or the last one alone.
		"a b d + c": api.ErrDuty, "a b + c": api.ErrDuty, "b d + c": api.ErrDuty, "a b d e + f": api.ErrDuty, "c d e f + a": api.ErrDuty, "c d e f + b": api.ErrDuty,
	} {
		active, role, _ := strings.Cut(text, " + ")
		x := roomOf(t, r, grants.New(), "ann "+active, "ann")
		checkTold(x, "activate 1 "+role, want)
		checkTold(x, "activate 2 "+role, 0)
	}
}

// What a user's other sessions have active does not count, nor what was dropped, nor what a user holds by grants and has not active.
func TestActivateDutyBySession(t *testing.T) {
	r := compiled(t, dutied)
	x := roomOf(t, r, lent(t, r, "ann cat a 0 0 9", "ann cat c 0 0 9", "ann cat d 0 0 9"), "ann b", "ann c", "cat a", "cat c", "cat b d")
	checkRefused(x, "activate 1 c", api.ErrDuty)
	checkRefused(x, "activate 2 b", api.ErrDuty)
	checkRefused(x, "activate 5 c", api.ErrDuty)
	checkDone(x, "activate 4 d", 0, 5, "1 ann b", "2 ann c", "3 cat a", "4 cat cd", "5 cat bd")
	checkRefused(x, "activate 4 a", api.ErrDuty)
	checkDone(x, "activate 3 d", 0, 5, "1 ann b", "2 ann c", "3 cat ad", "4 cat cd", "5 cat bd")
	checkDone(x, "drop 4 d", 0, 5, "1 ann b", "2 ann c", "3 cat ad", "4 cat c", "5 cat bd")
	checkDone(x, "activate 4 a", 0, 5, "1 ann b", "2 ann c", "3 cat ad", "4 cat ac", "5 cat bd")
	checkRefused(x, "activate 4 d", api.ErrDuty)
	checkDone(x, "drop 1 b", 0, 5, "1 ann", "2 ann c", "3 cat ad", "4 cat ac", "5 cat bd")
	checkDone(x, "activate 1 c", 0, 5, "1 ann c", "2 ann c", "3 cat ad", "4 cat ac", "5 cat bd")
}

// Of sets of all sizes, as many as there may be but one, and then one more.
func TestActivateDutyCounts(t *testing.T) {
	for size := 2; size <= api.MaxRoles; size++ {
		text, names := "", ""
		for i := range size {
			text += "role r" + strconv.Itoa(i) + ";"
			names += " r" + strconv.Itoa(i)
		}
		for n := 2; n <= size; n++ {
			x := roomOf(t, compiled(t, text+"user u"+names+";dsd "+strconv.Itoa(n)+names), grants.New(), "u")
			for i := range size {
				_, err := x.call("activate 1 r" + strconv.Itoa(size-1-i))
				if i < n-1 && err != nil || i >= n-1 && !errors.Is(err, api.ErrDuty) {
					t.Errorf("of %d roles, with a set of %d: the one behind %d tells %v", size, n, i, err)
				}
			}
		}
	}
}

// Sets of Ssd are not asked: that nobody holds too much is asked where roles are given and lent.
func TestActivateNotStatic(t *testing.T) {
	const plain = "role a > b;role b;role c;user ann a c;user cat;lend a 1 9;lend c 1 9"
	r := compiled(t, plain)
	g := lent(t, r, "ann cat a 0 0 9", "ann cat c 0 0 9")
	for _, sets := range []string{";ssd 2 a c", ";ssd 2 b c", ";ssd 3 a b c"} {
		apart := compiled(t, strings.Replace(plain, "ann a c", "ann", 1)+sets)
		x := roomOf(t, apart, g, "cat")
		checkDone(x, "activate 1 c", 0, 1, "1 cat c")
		checkDone(x, "activate 1 a", 0, 1, "1 cat ac")
		checkDone(x, "activate 1 b", 0, 1, "1 cat abc")
	}
	// One of each kind: that of Dsd alone is asked.
	x := roomOf(t, compiled(t, strings.Replace(plain, "ann a c", "ann", 1)+";ssd 2 a c;dsd 2 a b"), g, "cat c")
	checkDone(x, "activate 1 a", 0, 1, "1 cat ac")
	checkRefused(x, "activate 1 b", api.ErrDuty)
}

// By other rights, what is active may be too much already: then no other role can be made active.
func TestActivateDutyByOtherRights(t *testing.T) {
	const plain = "role a;role b;role c;user ann a b c"
	x := roomOf(t, compiled(t, plain), grants.New(), "ann a b", "ann a")
	other := x.with(compiled(t, plain+";dsd 2 a b"), x.g)
	checkRefused(other, "activate 1 c", api.ErrDuty)
	checkRefused(other, "activate 2 b", api.ErrDuty)
	checkTold(other, "activate 2 c", 0)
	checkTold(x, "activate 1 c", 0)
	checkTold(x, "activate 2 b", 0)
}

// Each error ahead of the next one, and ahead of all behind it.
func TestActivateErrorsInOrder(t *testing.T) {
	const plain = "role a;role b;role c;role d;user ann a b c;user bob"
	r := compiled(t, plain)
	x := roomOf(t, r, grants.New(), "ann a b", "bob", "ann c")
	apart := compiled(t, plain+";dsd 2 a b;dsd 2 a d;dsd 2 a c")
	less := compiled(t, "role a;role b;role c;role d;user ann b;user bob;dsd 2 a b;dsd 2 b d;dsd 2 a c")
	fewer := compiled(t, "role a;role b;user ann a b;user bob;dsd 2 a b")
	for _, step := range []struct {
		x    room
		text string
		want api.Errno
	}{
		// No such session: with a role that there is not, one that is active elsewhere, one that nobody has, one that breaks a duty elsewhere.
		{x, "4 e", api.ErrNone}, {x, "4 a", api.ErrNone}, {x, "0 a", api.ErrNone}, {x, "-1 d", api.ErrNone}, {x.with(apart, x.g), "4 c", api.ErrNone}, {x.with(apart, x.g), "4 b", api.ErrNone},
		// No such role: of one who holds nothing, of one who has too much already.
		{x, "2 e", api.ErrNone}, {x, "1 e", api.ErrNone}, {x.with(apart, x.g), "1 e", api.ErrNone}, {x.with(fewer, x.g), "1 c", api.ErrNone}, {x.with(fewer, x.g), "3 c", api.ErrNone}, {x.with(fewer, x.g), "1 d", api.ErrNone},
		// Active: and held no more, and too much already, and both.
		{x, "1 a", api.ErrThere}, {x.with(apart, x.g), "1 a", api.ErrThere}, {x.with(apart, x.g), "1 b", api.ErrThere}, {x.with(less, x.g), "3 c", api.ErrThere}, {x.with(less, x.g), "1 a", api.ErrThere}, {x.with(less, x.g), "1 b", api.ErrThere},
		// Not held: and it would break a duty, or one is broken already.
		{x, "1 d", api.ErrDenied}, {x.with(apart, x.g), "1 d", api.ErrDenied}, {x.with(less, x.g), "1 d", api.ErrDenied}, {x.with(less, x.g), "1 c", api.ErrDenied}, {x.with(less, x.g), "3 a", api.ErrDenied}, {x.with(apart, x.g), "2 a", api.ErrDenied},
		// A duty alone.
		{x.with(apart, x.g), "1 c", api.ErrDuty}, {x.with(apart, x.g), "3 a", api.ErrDuty},
		{x.with(apart, x.g), "3 b", 0}, {x.with(less, x.g), "3 b", 0}, {x.with(fewer, x.g), "3 a", 0},
	} {
		checkTold(step.x, "activate "+step.text, step.want)
	}
}

func TestDrop(t *testing.T) {
	r := compiled(t, office)
	x := roomOf(t, r, grants.New(), "ann a b c d", "ann a", "dan f d e")
	checkDone(x, "drop 1 b", 0, 3, "1 ann acd", "2 ann a", "3 dan def")
	checkDone(x, "drop 1 a", 0, 3, "1 ann cd", "2 ann a", "3 dan def")
	checkDone(x, "drop 3 f", 0, 3, "1 ann cd", "2 ann a", "3 dan de")
	checkDone(x, "drop 2 a", 0, 3, "1 ann cd", "2 ann", "3 dan de")
	checkDone(x, "drop 3 d", 0, 3, "1 ann cd", "2 ann", "3 dan e")
	checkDone(x, "drop 1 d", 0, 3, "1 ann c", "2 ann", "3 dan e")
	checkDone(x, "drop 1 c", 0, 3, "1 ann", "2 ann", "3 dan e")
	checkRefused(x, "drop 1 c", api.ErrNone)
	checkDone(x, "drop 3 e", 0, 3, "1 ann", "2 ann", "3 dan")
	for _, role := range []string{"a", "b", "c", "d", "e", "f"} {
		checkRefused(x, "drop 1 "+role, api.ErrNone)
		checkRefused(x, "drop 3 "+role, api.ErrNone)
	}
}

func TestDropNone(t *testing.T) {
	x := gapped(t)
	empty := roomOf(t, x.r, x.g)
	for _, n := range noSession {
		for _, role := range []string{"a", "b", "c", "d", "e", "f", "nothing", "-"} {
			checkRefused(x, "drop "+n+" "+role, api.ErrNone)
			checkRefused(empty, "drop "+n+" "+role, api.ErrNone)
		}
	}
	// No role, or one that is not active there: one below an active one, one above, one that is active elsewhere.
	for _, text := range []string{"1 -", "1 nothing", "1 p", "1 ann", "1 A", "1 aa", "1 b", "1 c", "1 d", "1 e", "3 a", "3 b", "3 d", "4 a", "4 f", "4 \x00"} {
		checkRefused(x, "drop "+text, api.ErrNone)
	}
	checkTold(x, "drop 1 a", 0)
	checkTold(x, "drop 3 c", 0)
	checkTold(x, "drop 4 e", 0)
}

// What the user holds is not asked, nor what is apart, nor whether there is the user; the role is that of the rights, by its index.
func TestDropByOtherRights(t *testing.T) {
	x := gapped(t)
	other := x.with(compiled(t, "role a;role b;role c;role e;role d;dsd 2 e d"), grants.New())
	checkRefused(other, "drop 1 e", api.ErrNone)
	checkRefused(other, "drop 1 f", api.ErrNone)
	checkDone(other, "drop 4 e", 0, 4, "1 ann a", "3 cat c", "4 dan e")
	checkRefused(other, "drop 4 e", api.ErrNone)
	checkDone(other, "drop 4 d", 0, 4, "1 ann a", "3 cat c", "4 dan")
	checkDone(other, "drop 3 c", 0, 4, "1 ann a", "3 cat", "4 dan")
	checkRefused(other.with(compiled(t, ""), grants.New()), "drop 1 a", api.ErrNone)
	checkDone(other, "drop 1 a", 0, 4, "1 ann", "3 cat", "4 dan")
}
