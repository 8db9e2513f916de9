package seats

import (
	"errors"
	"strings"
	"testing"

	"imprimatur/api"
	"imprimatur/grants"
	"imprimatur/rights"
)

// checkCarried carries the sessions of a copy, and holds them behind it, and that the number of the next one stays.
func checkCarried(x room, to *rights.Rights, want ...string) {
	x.t.Helper()
	l, last := x.s.List(), next(x.t, x.s)-1
	keptOld, keptNew := keep(x.t, x.r, x.g), keep(x.t, to, x.g)
	c := x.s.Clone()
	if err := c.Carry(x.r, to); err != nil {
		x.t.Errorf("%+v are carried with %v", l, err)
	}
	keptOld()
	keptNew()
	checkState(x.t, c, last, want...)
	checkSeats(x.t, x.s, last, l)
}

// checkNotCarried holds an error of Carry, and that it changes nothing.
func checkNotCarried(x room, to *rights.Rights, want api.Errno) {
	x.t.Helper()
	l, last := x.s.List(), next(x.t, x.s)-1
	keptOld, keptNew := keep(x.t, x.r, x.g), keep(x.t, to, x.g)
	for range 2 {
		if err := x.s.Carry(x.r, to); !errors.Is(err, want) {
			x.t.Errorf("%+v are carried with %v, not %v", l, err, want)
		}
	}
	keptOld()
	keptNew()
	checkSeats(x.t, x.s, last, l)
}

const ward = "role a > b;role b;role c;role d;user ann a c;user bob d;user cat"

// three has sessions of three users; cat has b by a grant.
func three(t *testing.T) room {
	t.Helper()
	r := compiled(t, ward+";lend b 1 9")
	return roomOf(t, r, lent(t, r, "ann cat b 0 0 9"), "ann a c", "bob d", "cat b", "ann b", "bob")
}

func TestCarrySame(t *testing.T) {
	x := three(t)
	all := []string{"1 ann ac", "2 bob d", "3 cat b", "4 ann b", "5 bob"}
	checkCarried(x, x.r, all...)
	checkCarried(x, compiled(t, ward), all...)
	checkCarried(room{t, x.r, x.g, New()}, x.r)
	checkCarried(room{t, x.r, x.g, New()}, compiled(t, ""))
	checkCarried(room{t, compiled(t, ""), x.g, New()}, x.r)
	// The number of the next session stays, also where there is none any more.
	for _, text := range []string{"close 5", "close 2", "close 3"} {
		if _, err := x.call(text); err != nil {
			t.Fatal(text, err)
		}
	}
	checkCarried(x, x.r, "1 ann ac", "4 ann b")
	checkCarried(x, compiled(t, "role c;role b;role a;user ann"), "1 ann ac", "4 ann b")
	for _, text := range []string{"close 1", "close 4"} {
		if _, err := x.call(text); err != nil {
			t.Fatal(text, err)
		}
	}
	checkCarried(x, compiled(t, ""))
}

// The active roles go along by their names, to indices of other roles of the old rights too.
func TestCarryByNames(t *testing.T) {
	x := three(t)
	const users = ";user bob;user ann;user cat"
	checkCarried(x, compiled(t, "role d;role c;role b;role a"+users), "1 ann bd", "2 bob a", "3 cat c", "4 ann c", "5 bob")
	checkCarried(x, compiled(t, "role b;role c;role d;role a"+users), "1 ann bd", "2 bob c", "3 cat a", "4 ann a", "5 bob")
	checkCarried(x, compiled(t, "role x;role a;role b;role y;role c;role d;role z"+users), "1 ann be", "2 bob f", "3 cat c", "4 ann c", "5 bob")
	// What is above what, who has what, and what is lent is not asked.
	checkCarried(x, compiled(t, "role b > a d;role a;role d > c;role c;user cat;user bob b;user ann d"), "1 ann bd", "2 bob c", "3 cat a", "4 ann a", "5 bob")
	// There and back, and onward.
	c := x.copied()
	other := compiled(t, "role d;role c;role b;role a"+users)
	third := compiled(t, "role c;role a;role d;role x;role b"+users)
	for range 3 {
		if err := c.s.Carry(x.r, other); err != nil {
			t.Fatal(err)
		}
		if err := c.s.Carry(other, third); err != nil {
			t.Fatal(err)
		}
		checkState(t, c.s, 5, "1 ann ab", "2 bob c", "3 cat e", "4 ann e", "5 bob")
		if err := c.s.Carry(third, x.r); err != nil {
			t.Fatal(err)
		}
		checkState(t, c.s, 5, "1 ann ac", "2 bob d", "3 cat b", "4 ann b", "5 bob")
	}
}

// Behind Carry the sessions are those of the new rights: what is active there, and who may what.
func TestCarryAndOn(t *testing.T) {
	x := three(t)
	to := compiled(t, "role d;role c;role b;role a > b;user ann a c;user bob d b;user cat;perm p a;perm q b;perm s d;dsd 2 d b")
	if err := x.s.Carry(x.r, to); err != nil {
		t.Fatal(err)
	}
	x = x.with(to, grants.New())
	checkMay(x, 1, "p q -", "s")
	checkMay(x, 2, "s", "p q")
	checkMay(x, 3, "q", "p s")
	checkRefused(x, "activate 2 d", api.ErrThere)
	checkRefused(x, "activate 2 b", api.ErrDuty)
	checkDone(x, "activate 5 b", 0, 5, "1 ann bd", "2 bob a", "3 cat c", "4 ann c", "5 bob c")
	checkDone(x, "drop 1 a", 0, 5, "1 ann b", "2 bob a", "3 cat c", "4 ann c", "5 bob c")
	checkPruned(x, []int{3}, "1 ann b", "2 bob a", "3 cat", "4 ann c", "5 bob c")
	checkDone(x, "open cat", 6, 6, "1 ann b", "2 bob a", "3 cat", "4 ann c", "5 bob c", "6 cat")
}

func TestCarryNone(t *testing.T) {
	x := three(t)
	for text, want := range map[string]api.Errno{
		// A user whom there is not any more: of the first session, of one without roles too, of the last; and one who is called something else.
		"role a;role b;role c;role d;user bob;user cat":                   api.ErrNone,
		"role a;role b;role c;role d;user ann;user cat":                   api.ErrNone,
		"role a;role b;role c;role d;user ann;user bob":                   api.ErrNone,
		"role a;role b;role c;role d":                                     api.ErrNone,
		"role a;role b;role c;role d;user ann;user bob;user cats":         api.ErrNone,
		"role a;role b;role c;role d;role cat;perm cat;user ann;user bob": api.ErrNone,
		// An active role that there is not any more: of the first session, of the next one, one that is below another one that is active.
		"role b;role c;role d;user ann;user bob;user cat":               api.ErrNone,
		"role a;role c;role d;user ann;user bob;user cat":               api.ErrNone,
		"role a;role b;role d;user ann;user bob;user cat":               api.ErrNone,
		"role a;role b;role c;user ann;user bob;user cat":               api.ErrNone,
		"role a;role b;role c;role aa;user ann;user bob;user cat":       api.ErrNone,
		"role a;role b;role c;perm d;user ann;user bob;user cat;user d": api.ErrNone,
		"user ann;user bob;user cat":                                    api.ErrNone,
		"":                                                              api.ErrNone,
	} {
		checkNotCarried(x, compiled(t, text), want)
	}
}

// Roles that are not active may be none, and so may users who have no session.
func TestCarryNotActive(t *testing.T) {
	r := compiled(t, ward)
	x := roomOf(t, r, grants.New(), "ann a c", "bob")
	checkCarried(x, compiled(t, "role c;role a;user bob;user ann"), "1 ann ab", "2 bob")
	checkNotCarried(x, compiled(t, "role c;role b;role d;user bob;user ann"), api.ErrNone)
	checkDone(x, "drop 1 a", 0, 2, "1 ann c", "2 bob")
	checkCarried(x, compiled(t, "role c;role b;role d;user bob;user ann"), "1 ann a", "2 bob")
	checkDone(x, "drop 1 c", 0, 2, "1 ann", "2 bob")
	checkCarried(x, compiled(t, "user bob;user ann"), "1 ann", "2 bob")
	checkNotCarried(x, compiled(t, "user ann"), api.ErrNone)
	checkDone(x, "close 2", 0, 2, "1 ann")
	checkCarried(x, compiled(t, "user ann"), "1 ann")
}

func TestCarryDuty(t *testing.T) {
	r := compiled(t, "role a > b;role b;role c;role d;user ann a c d;user bob a")
	x := roomOf(t, r, grants.New(), "ann a c", "ann d", "bob a b")
	const moved = "role d;role c;role b;role a > b c;user bob;user ann;"
	for sets, want := range map[string]api.Errno{
		// Just broken, in the first session or in the last one, and just not.
		"dsd 2 a c": api.ErrDuty, "dsd 2 a b": api.ErrDuty, "dsd 2 a b c d": api.ErrDuty, "dsd 2 c a d": api.ErrDuty,
		"dsd 3 a b c": 0, "dsd 3 a b c d": 0, "dsd 3 a c d": 0,
		// Not those of two sessions together, nor those below an active one, a above c.
		"dsd 2 c d": 0, "dsd 2 a d": 0, "dsd 2 b c": 0, "dsd 2 b d": 0, "dsd 3 a b d": 0,
		// Each of several sets; an Ssd set is not asked.
		"dsd 2 c d;dsd 2 b d;dsd 2 a b": api.ErrDuty, "dsd 2 a c;dsd 2 c d": api.ErrDuty, "dsd 2 c d;dsd 2 b d;dsd 3 a b c": 0, "ssd 2 a b;ssd 2 a c": 0, "ssd 2 a b;dsd 2 b c": 0,
	} {
		to := compiled(t, moved+sets)
		if want != 0 {
			checkNotCarried(x, to, want)
		} else {
			checkCarried(x, to, "1 ann bd", "2 ann a", "3 bob cd")
		}
	}
	// The sets of the old rights are nothing to it.
	old := compiled(t, "role a > b;role b;role c;role d;user ann;user bob;dsd 2 a c;dsd 2 a b")
	checkCarried(x.with(old, x.g), compiled(t, moved), "1 ann bd", "2 ann a", "3 bob cd")
}

// What there is not stands ahead of a duty, whichever session it is of.
func TestCarryErrorsInOrder(t *testing.T) {
	r := compiled(t, "role a;role b;role c;user ann a b;user bob a b c;user cat c")
	for _, texts := range [][]string{
		{"ann a b", "bob c"}, {"bob c", "ann a b"}, {"bob a b c"}, {"ann a b", "ann", "bob a", "bob b c"}, {"bob a b", "bob c a", "ann b a"},
		{"ann a b", "cat"}, {"cat", "ann a b"}, {"cat c", "bob a b"}, {"bob b a", "cat c"}, {"bob a", "bob a b", "ann b a", "cat"},
	} {
		x := roomOf(t, r, grants.New(), texts...)
		// By these, neither cat nor c is there, and a and b are apart.
		checkNotCarried(x, compiled(t, "role b;role a;user bob;user ann;dsd 2 a b"), api.ErrNone)
		checkNotCarried(x, compiled(t, "role b;role a;user bob;user ann"), api.ErrNone)
		checkNotCarried(x, compiled(t, "role b;role a;role c;user bob;user ann;user cat;dsd 2 a b"), api.ErrDuty)
	}
}

// Of as many roles as there may be, the first and the last one; and of more old roles than new ones.
func TestCarryMost(t *testing.T) {
	var up, down []string
	for i := range api.MaxRoles {
		up = append(up, "role "+string(rune('a'+i)))
		down = append(down, "role "+string(rune('x'-i)))
	}
	forth := compiled(t, strings.Join(up, ";")+";user u a b w x")
	back := compiled(t, strings.Join(down, ";")+";user u")
	x := roomOf(t, forth, grants.New(), "u a b", "u x", "u a w x", "u")
	checkCarried(x, back, "1 u xw", "2 u a", "3 u xba", "4 u")
	checkCarried(x.with(back, x.g), forth, "1 u xw", "2 u a", "3 u xba", "4 u")
	checkCarried(x, compiled(t, "role w;role x;role b;role a;user u"), "1 u dc", "2 u b", "3 u dab", "4 u")
	// An active bit that is no role of the old rights is that of no role of the new ones.
	checkNotCarried(x.with(compiled(t, "role a;role b;user u"), x.g), forth, api.ErrNone)
	checkNotCarried(x.with(compiled(t, ""), x.g), forth, api.ErrNone)
}
