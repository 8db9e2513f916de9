package grants

import (
	"errors"
	"strings"
	"testing"

	"imprimatur/api"
)

// checkSound holds Sound: the error, or none (0), and that it changes nothing.
func checkSound(t *testing.T, g *Grants, text string, want api.Errno) {
	t.Helper()
	r := compiled(t, text)
	l, last := g.List(), next(t, g)-1
	keptRights := keep(t, r)
	for range 2 {
		err := g.Sound(r)
		if want == 0 && err != nil || want != 0 && !errors.Is(err, want) {
			t.Errorf("with the rights of %q, Sound of %+v is %v, not %v", text, l, err, want)
		}
	}
	keptRights()
	checkState(t, g, last, l)
}

// changed returns a text in which lines stand for others, or for none, as in "role a=>role a > b | user ann=>".
func changed(t *testing.T, text, changes string) string {
	t.Helper()
	text = ";" + text + ";"
	for _, change := range strings.Split(changes, " | ") {
		line, other, ok := strings.Cut(change, "=>")
		if !ok || !strings.Contains(text, ";"+line+";") {
			t.Fatalf("%q is no line of %q", line, text)
		}
		text = strings.Replace(text, ";"+line+";", ";"+other+";", 1)
	}
	return strings.Trim(text, ";")
}

const lent = "role a > b;role b > c;role c;role d;user ann a;user bob d;user cat;user dan;user eve;lend a 2 100;lend b 3 100;lend c 1 100;lend d 1 100"

// hands has a grant of a (1), one of b by way of it (2), one of b by way of that (3), one of c (4) and one of d (5).
func hands(t *testing.T) *Grants {
	t.Helper()
	return given(t, compiled(t, lent), "ann bob a 0 0 50", "bob cat b 1 0 50", "cat dan b 2 0 50", "ann dan c 0 0 50", "bob eve d 0 0 50")
}

func TestSoundNoGrants(t *testing.T) {
	for _, text := range []string{"", "user ann", "role a", lent, office, "role a;role b;user ann a;user bob b;ssd 2 a b"} {
		checkSound(t, New(), text, 0)
	}
	// The numbers that were used do not matter.
	g := hands(t)
	g.Expire(50)
	checkSound(t, g, "", 0)
	checkSound(t, g, "role x", 0)
}

func TestSound(t *testing.T) {
	g := hands(t)
	checkSound(t, g, lent, 0)
	checkSound(t, g, lent+";role e > a;user fay e;ssd 2 e d;dsd 2 a b;exclusive x y;perm p", 0)
	// Rules in another order, so that roles and users have other indices.
	l := strings.Split(lent, ";")
	for i := range l {
		checkSound(t, g, strings.Join(append(l[i:], l[:i]...), ";"), 0)
	}
}

func TestSoundChanged(t *testing.T) {
	for changes, want := range map[string]api.Errno{
		// A user or a role that there is not any more.
		"user ann a=>": api.ErrNone, "user bob d=>": api.ErrNone, "user cat=>": api.ErrNone, "user dan=>": api.ErrNone, "user eve=>": api.ErrNone,
		"user ann a=>user amy a;perm ann a": api.ErrNone, "user cat=>perm cat": api.ErrNone, "role d=> | user bob d=>user bob | lend d 1 100=>role dan": api.ErrNone, "role d=>role e;user d e | user bob d=>user bob e | lend d 1 100=>lend e 1 100": api.ErrNone,
		// A role without a Loan, and a Loan of fewer hands: just as many, and one fewer.
		"lend a 2 100=>": api.ErrDenied, "lend b 3 100=>": api.ErrDenied, "lend c 1 100=>": api.ErrDenied, "lend d 1 100=>": api.ErrDenied,
		"lend a 2 100=>lend a 1 100": 0, "lend b 3 100=>lend b 2 100": api.ErrDenied, "lend b 3 100=>lend b 1 100": api.ErrDenied, "lend b 3 100=>lend b 4 100": 0,
		// The time of a Loan is nothing to a grant that there is.
		"lend a 2 100=>lend a 2 1": 0, "lend b 3 100=>lend b 3 49": 0, "lend d 1 100=>lend d 9 999999999": 0,
		// What From has by a rule: less, none, another one, more.
		"user ann a=>user ann b": api.ErrDenied, "user ann a=>user ann": api.ErrDenied, "user ann a=>user ann d c b": api.ErrDenied, "user ann a=>user ann d a c": 0, "user bob d=>user bob": api.ErrDenied, "user bob d=>user bob a": api.ErrDenied, "user bob d=>user bob d a": 0,
		// From may come to have by what is above the role, and only by a grant is not enough: bob has a by grant 1.
		"user ann a=>user ann e | role d=>role d;role e > a": 0, "role a > b=>role a > b d | user bob d=>user bob": api.ErrDenied, "role a > b=>role a > b d | user bob d=>user bob a": 0,
		// What is below what From has: grant 4 is of c, which a is above by way of b alone.
		"role b > c=>role b": api.ErrDenied, "role b > c=>role b | role a > b=>role a > b c": 0, "role b > c=>role b > c d": 0,
		// What the role of a way is above: grant 2 is of b, by way of one of a.
		"role a > b=>role a > c": api.ErrDenied, "role a > b=>role a > c | user bob d=>user bob d b": api.ErrDenied, "role a > b=>role a > c d | role d=>role d > b": 0, "role a > b=>role a > d c | role b > c=>role b > a": api.ErrDenied,
		// What somebody other has.
		"user cat=>user cat a d": 0, "user eve=>user eve d": 0, "user dan=>user dan b c": 0,
	} {
		checkSound(t, hands(t), changed(t, lent, changes), want)
	}
}

// Grant by grant, each with ErrNone ahead of ErrDenied, and ErrDuty behind all of them.
func TestSoundErrorsInOrder(t *testing.T) {
	for changes, want := range map[string]api.Errno{
		"lend a 2 100=> | user cat=>":           api.ErrDenied,
		"lend a 2 100=> | user eve=>":           api.ErrDenied,
		"lend a 2 100=> | user bob d=>":         api.ErrNone,
		"user ann a=> | lend a 2 100=>":         api.ErrNone,
		"user cat=> | lend b 3 100=>":           api.ErrNone,
		"user cat=> | lend c 1 100=>":           api.ErrNone,
		"user eve=> | lend c 1 100=>":           api.ErrDenied,
		"user eve=> | lend d 1 100=>":           api.ErrNone,
		"user eve=> | lend b 3 100=>lend b 2 9": api.ErrDenied,
		"user eve=> | role a > b=>role a > c":   api.ErrDenied,
		"user dan=> | role a > b=>role a > c":   api.ErrDenied,
		"user cat=> | role a > b=>role a > c":   api.ErrNone,
		// With duties that are broken, too: bob holds a and d.
		"role d=>role d;ssd 2 a d":                               api.ErrDuty,
		"role d=>role d;ssd 2 a d | lend a 2 100=>":              api.ErrDenied,
		"role d=>role d;ssd 2 a d | lend b 3 100=>lend b 2 100":  api.ErrDenied,
		"role d=>role d;ssd 2 a d | lend d 1 100=>":              api.ErrDenied,
		"role d=>role d;ssd 2 a d | user eve=>":                  api.ErrNone,
		"role d=>role d;ssd 2 a d | user cat=>":                  api.ErrNone,
		"role d=>role d;ssd 2 a d | lend c 1 100=> | user eve=>": api.ErrDenied,
	} {
		checkSound(t, hands(t), changed(t, lent, changes), want)
	}
}

// What a user holds by the rule and by grants, and below them, is to be apart; each user by itself.
func TestSoundDuty(t *testing.T) {
	for changes, want := range map[string]api.Errno{
		// bob has d by the rule and a by a grant, dan b and c, eve d by grants.
		"role d=>role d;ssd 2 a d": api.ErrDuty, "role d=>role d;ssd 2 d c": api.ErrDuty, "role d=>role d;ssd 3 a c d": api.ErrDuty, "role d=>role d;ssd 4 a b c d": api.ErrDuty,
		"role d=>role d;role e;ssd 4 a c d e": 0, "role d=>role d;role e;ssd 2 a e": 0, "role d=>role d;role e;ssd 3 b d e": 0,
		"role d=>role d;dsd 2 a d": 0, "role d=>role d;exclusive a d": 0,
		// Another one alone: the last of the users, one with grants of one role only, and one whose rule names what is below or above.
		"user eve=>user eve e;role e;ssd 2 d e": api.ErrDuty, "user eve=>user eve e | role d=>role d > f;role e;role f;ssd 2 e f": api.ErrDuty, "user eve=>user eve e | role d=>role d;role e > f;role f;ssd 2 d f": api.ErrDuty, "user eve=>user eve f | role d=>role d;role e > f;role f;ssd 2 d e": 0,
		"user cat=>user cat e;role e;ssd 2 b e": api.ErrDuty, "user cat=>user cat e;role e;ssd 2 c e": api.ErrDuty, "user cat=>user cat e;role e;ssd 2 a e": 0, "user cat=>user cat e;role e;ssd 2 d e": 0,
		"user dan=>user dan e;role e;ssd 3 b c e": api.ErrDuty, "user dan=>user dan e;role e;ssd 2 a e;ssd 2 d e": 0, "user dan=>user dan e;role e;ssd 2 d e;ssd 2 a e;ssd 2 c e": api.ErrDuty,
		// Somebody without grants has what the rule names alone.
		"user eve=>user eve;user fay e;role e;ssd 2 d e": 0,
	} {
		checkSound(t, hands(t), changed(t, lent, changes), want)
	}
}

// One who has nothing by the rule, and two roles by grants: both of the set, and one that is above the other.
func TestSoundDutyByGrantsAlone(t *testing.T) {
	const two = "role a > c;role b;role c;user bob a;user cat b;user dan;lend a 9 9;lend b 9 9;lend c 9 9"
	g := given(t, compiled(t, two), "bob dan a 0 0 9", "cat dan b 0 0 8")
	for sets, want := range map[string]api.Errno{";ssd 2 a b": api.ErrDuty, ";ssd 2 b c": api.ErrDuty, ";ssd 3 a b c": api.ErrDuty, ";dsd 2 a b": 0, ";role d;ssd 3 a b d": 0} {
		checkSound(t, g, two+sets, want)
	}
	g.Expire(8)
	checkSound(t, g, two+";ssd 2 a b", 0)
	checkSound(t, g, two+";ssd 2 b c", 0)
}

// What is asked is what is left: a grant that is gone is nothing to what was given ahead of it or behind it.
func TestSoundOfWhatIsLeft(t *testing.T) {
	g := hands(t)
	without := changed(t, lent, "lend d 1 100=> | user eve=>")
	checkSound(t, g, without, api.ErrNone)
	if err := g.Revoke(5, "bob"); err != nil {
		t.Fatal(err)
	}
	checkSound(t, g, without, 0)
	checkSound(t, g, changed(t, without, "role a > b=>role a > c"), api.ErrDenied)
	if err := g.Revoke(2, "bob"); err != nil {
		t.Fatal(err)
	}
	checkSound(t, g, changed(t, without, "role a > b=>role a > c | user cat=>"), 0)
	checkSound(t, g, changed(t, lent, "lend b 3 100=>"), 0)
}
