package seats

import (
	"errors"
	"math"
	"reflect"
	"slices"
	"strconv"
	"strings"
	"testing"

	"imprimatur/api"
	"imprimatur/duty"
	"imprimatur/grants"
	"imprimatur/policy"
	"imprimatur/rights"
)

// compiled returns the rights of a text, whose lines are separated by semicolons.
func compiled(t *testing.T, text string) *rights.Rights {
	t.Helper()
	l, err := policy.Parse(strings.ReplaceAll(text, ";", "\n"))
	if err != nil {
		t.Fatalf("%q: %v", text, err)
	}
	r, err := rights.Compile(l)
	if err != nil {
		t.Fatalf("%q: %v", text, err)
	}
	return r
}

// office has the roles a (0) above b (1) above c (2), and d (3), e (4) and f (5) by themselves.
// What is no user, role or permission here has the name of something else, or nearly that of one.
const office = "role a > b;role b > c;role c;role d;role e;role f;user ann a d;user bob b;user cat;user dan d e f;user zed;perm p b;perm q c d;perm ann a;perm none;perm f e;" +
	"lend a 3 100;lend b 3 100;lend c 3 100;lend d 3 100;lend e 3 100;lend f 3 100"

// lent returns grants that were given one after the other, each of "FROM TO ROLE WAY NOW TIME".
func lent(t *testing.T, r *rights.Rights, asks ...string) *grants.Grants {
	t.Helper()
	g := grants.New()
	for i, text := range asks {
		w := strings.Fields(text)
		if n, err := g.Give(r, w[0], w[1], w[2], number(w[3]), number(w[4]), number(w[5])); n != i+1 || err != nil {
			t.Fatalf("%q is given as %d, %v", text, n, err)
		}
	}
	return g
}

func number(word string) int {
	n, err := strconv.Atoi(word)
	if err != nil {
		panic(err)
	}
	return n
}

// room is sessions, and the rights and the grants that they are asked with.
type room struct {
	t *testing.T
	r *rights.Rights
	g *grants.Grants
	s *Seats
}

// roomOf returns sessions of the users that some texts name first, in which the roles are active that they name behind.
func roomOf(t *testing.T, r *rights.Rights, g *grants.Grants, texts ...string) room {
	t.Helper()
	x := room{t, r, g, New()}
	for i, text := range texts {
		w := strings.Fields(text)
		if n, err := x.s.Open(r, w[0]); n != i+1 || err != nil {
			t.Fatalf("%q is opened as %d, %v", text, n, err)
		}
		for _, role := range w[1:] {
			if err := x.s.Activate(r, g, i+1, role); err != nil {
				t.Fatalf("%q: %q is activated with %v", text, role, err)
			}
		}
	}
	return x
}

// with returns the same sessions with other rights and grants.
func (x room) with(r *rights.Rights, g *grants.Grants) room {
	return room{x.t, r, g, x.s}
}

// copied returns a room with a copy of the sessions.
func (x room) copied() room {
	return room{x.t, x.r, x.g, x.s.Clone()}
}

// call makes the call that some words ask for: "open USER", "close NUMBER", "activate NUMBER ROLE", "drop NUMBER ROLE"; "-" is the empty word.
func (x room) call(text string) (int, error) {
	w := append(strings.Fields(text), "-")
	last := strings.ReplaceAll(w[2], "-", "")
	switch w[0] {
	case "open":
		return x.s.Open(x.r, strings.ReplaceAll(w[1], "-", ""))
	case "close":
		return 0, x.s.Close(number(w[1]))
	case "activate":
		return 0, x.s.Activate(x.r, x.g, number(w[1]), last)
	case "drop":
		return 0, x.s.Drop(x.r, number(w[1]), last)
	}
	panic(text)
}

// set returns the set of the indices of some letters.
func set(letters string) (s uint32) {
	for _, b := range []byte(letters) {
		s |= 1 << (b - 'a')
	}
	return s
}

// seats returns the sessions of some texts, each of "NUMBER USER LETTERS": a letter stands for the index of an active role.
func seats(texts ...string) []Seat {
	l := []Seat{}
	for _, text := range texts {
		w := append(strings.Fields(text), "")
		l = append(l, Seat{number(w[0]), w[1], set(w[2])})
	}
	return l
}

// next returns the number that the next session would get, whatever else is in the way of one.
func next(t *testing.T, s *Seats) int {
	t.Helper()
	c := s.Clone()
	for _, x := range c.List() {
		if err := c.Close(x.Number); err != nil {
			t.Fatalf("session %d of the list can't be closed: %v", x.Number, err)
		}
	}
	n, err := c.Open(compiled(t, "user x"), "x")
	if err != nil {
		t.Fatalf("no session can be opened behind %v: %v", s.List(), err)
	}
	return n
}

// checkSeats holds the sessions that there are, by List and by Get, and the number of the next one, and changes each list that is handed out (R4).
func checkSeats(t *testing.T, s *Seats, last int, want []Seat) {
	t.Helper()
	for range 2 {
		l := s.List()
		if !slices.Equal(l, want) {
			t.Errorf("the sessions are %+v, not %+v", l, want)
		}
		l = l[:cap(l)]
		for i := range l {
			l[i] = Seat{99, "wiped", 1<<32 - 1}
		}
		_ = append(l, Seat{})
	}
	for n := -1; n <= last+1; n++ {
		at := slices.IndexFunc(want, func(x Seat) bool { return x.Number == n })
		x, ok := s.Get(n)
		if ok != (at >= 0) || ok && x != want[at] || !ok && x != (Seat{}) {
			t.Errorf("session %d is %+v, %v, of %+v", n, x, ok, want)
		}
	}
	if n := next(t, s); n != last+1 {
		t.Errorf("the next session is %d, not %d", n, last+1)
	}
}

func checkState(t *testing.T, s *Seats, last int, want ...string) {
	t.Helper()
	checkSeats(t, s, last, seats(want...))
}

// checkDone holds what a call without an error tells, the sessions behind it, and the greatest number ever used.
func checkDone(x room, text string, n, last int, want ...string) {
	x.t.Helper()
	kept := keep(x.t, x.r, x.g)
	if got, err := x.call(text); got != n || err != nil {
		x.t.Errorf("%q tells %d, %v, not %d", text, got, err, n)
	}
	kept()
	checkState(x.t, x.s, last, want...)
}

// checkRefused holds an error of a call, and that it changes nothing.
func checkRefused(x room, text string, want api.Errno) {
	x.t.Helper()
	l, last := x.s.List(), next(x.t, x.s)-1
	kept := keep(x.t, x.r, x.g)
	for range 2 {
		if n, err := x.call(text); n != 0 || !errors.Is(err, want) {
			x.t.Errorf("%q tells %d, %v, not %v, of %+v", text, n, err, want, l)
		}
	}
	kept()
	checkSeats(x.t, x.s, last, l)
}

// checkTold holds what a call tells, an error or none (0), and leaves the sessions as they are.
func checkTold(x room, text string, want api.Errno) {
	x.t.Helper()
	if want != 0 {
		checkRefused(x, text, want)
		return
	}
	if _, err := x.copied().call(text); err != nil {
		x.t.Errorf("%q tells %v", text, err)
	}
}

// answers is what rights and grants answer.
type answers struct {
	Names, Users, Perms []string
	Sets                []uint32
	Duties              [][]duty.Set
	Apart               [][]string
	Loans               []rights.Loan
	Grants              []grants.Grant
}

// keep asks, when it is called behind a call, whether rights and grants answer what they did ahead of it.
func keep(t *testing.T, r *rights.Rights, g *grants.Grants) func() {
	t.Helper()
	all := func() answers {
		o := r.Order()
		x := answers{Names: o.Names(), Users: r.Users(), Perms: r.Perms(), Duties: [][]duty.Set{r.Static(), r.Dynamic()}, Apart: r.Apart(), Grants: g.List()}
		for _, user := range x.Users {
			x.Sets = append(x.Sets, r.Has(user), g.Holds(r, user))
		}
		for _, perm := range x.Perms {
			x.Sets = append(x.Sets, r.Gives(perm))
		}
		for i, role := range x.Names {
			loan, _ := r.Lends(role)
			x.Loans = append(x.Loans, loan)
			x.Sets = append(x.Sets, o.Down(1<<i), o.Up(1<<i))
		}
		return x
	}
	before := all()
	return func() {
		t.Helper()
		if after := all(); !reflect.DeepEqual(before, after) {
			t.Errorf("the rights and grants %+v became %+v", before, after)
		}
	}
}

func TestNew(t *testing.T) {
	s, other := New(), New()
	checkState(t, s, 0)
	r := compiled(t, office)
	if _, err := s.Open(r, "ann"); err != nil {
		t.Error(err)
	}
	checkState(t, s, 1, "1 ann")
	checkState(t, other, 0)
	checkState(t, New(), 0)
}

func TestGet(t *testing.T) {
	r := compiled(t, office)
	x := roomOf(t, r, grants.New(), "ann a", "bob b c", "ann", "dan d f e")
	checkState(t, x.s, 4, "1 ann a", "2 bob bc", "3 ann", "4 dan def")
	if err := x.s.Close(2); err != nil {
		t.Fatal(err)
	}
	for n, want := range map[int]Seat{1: {1, "ann", set("a")}, 3: {3, "ann", 0}, 4: {4, "dan", set("def")}} {
		if got, ok := x.s.Get(n); got != want || !ok {
			t.Errorf("session %d is %+v, %v, not %+v", n, got, ok, want)
		}
	}
	for _, n := range []int{2, 0, -1, 5, 99, 1 << 32, 1<<32 + 1, math.MinInt, math.MaxInt} {
		if got, ok := x.s.Get(n); got != (Seat{}) || ok {
			t.Errorf("session %d is %+v, %v, and there is none", n, got, ok)
		}
		if got, ok := New().Get(n); got != (Seat{}) || ok {
			t.Errorf("session %d of none is %+v, %v", n, got, ok)
		}
	}
}

func TestList(t *testing.T) {
	r := compiled(t, office)
	g := grants.New()
	checkState(t, New(), 0)
	x := roomOf(t, r, g, "zed")
	checkState(t, x.s, 1, "1 zed")
	x = roomOf(t, r, g, "zed", "dan f", "ann b", "cat", "ann d", "bob")
	checkState(t, x.s, 6, "1 zed", "2 dan f", "3 ann b", "4 cat", "5 ann d", "6 bob")
	// Behind those that are closed, and in the order of the numbers whichever is changed last.
	checkDone(x, "close 4", 0, 6, "1 zed", "2 dan f", "3 ann b", "5 ann d", "6 bob")
	checkDone(x, "open cat", 7, 7, "1 zed", "2 dan f", "3 ann b", "5 ann d", "6 bob", "7 cat")
	checkDone(x, "activate 2 d", 0, 7, "1 zed", "2 dan df", "3 ann b", "5 ann d", "6 bob", "7 cat")
	checkDone(x, "drop 3 b", 0, 7, "1 zed", "2 dan df", "3 ann", "5 ann d", "6 bob", "7 cat")
}

// What is done to a copy changes nothing of the other one, and the other way round.
func TestClone(t *testing.T) {
	old := compiled(t, office)
	moved := compiled(t, "role f;role e;role d;role c;role b;role a;user ann;user bob;user cat;user dan")
	g := lent(t, old, "ann cat c 0 0 9")
	all := []string{"1 ann a", "2 bob bc", "3 cat c", "4 dan df"}
	for name, change := range map[string]func(x room) error{
		"open":     func(x room) error { _, err := x.call("open zed"); return err },
		"close":    func(x room) error { _, err := x.call("close 1"); return err },
		"last":     func(x room) error { _, err := x.call("close 4"); return err },
		"activate": func(x room) error { _, err := x.call("activate 4 e"); return err },
		"drop":     func(x room) error { _, err := x.call("drop 2 c"); return err },
		"prune":    func(x room) error { x.s.Prune(x.r, grants.New()); return nil },
		"carry":    func(x room) error { return x.s.Carry(old, moved) },
	} {
		for _, ofCopy := range []bool{true, false} {
			x := roomOf(t, old, g, "ann a", "bob b c", "cat c", "dan d f")
			c := x.copied()
			checkState(t, c.s, 4, all...)
			if !ofCopy {
				x, c = c, x
			}
			if err := change(c); err != nil {
				t.Fatal(name, err)
			}
			if slices.Equal(c.s.List(), seats(all...)) {
				t.Errorf("%s changes nothing", name)
			}
			checkState(t, x.s, 4, all...)
			checkState(t, x.s.Clone(), 4, all...)
			checkDone(x, "open bob", 5, 5, append(slices.Clone(all), "5 bob")...)
		}
	}
}

// The number of the next session is copied, too, and counted by each for itself.
func TestCloneNumbers(t *testing.T) {
	checkState(t, New().Clone(), 0)
	x := roomOf(t, compiled(t, office), grants.New(), "ann", "bob", "cat")
	for _, text := range []string{"close 3", "close 2", "close 1"} {
		if _, err := x.call(text); err != nil {
			t.Fatal(text, err)
		}
	}
	c := x.copied()
	checkState(t, c.s, 3)
	checkDone(c, "open zed", 4, 4, "4 zed")
	checkDone(c, "open bob", 5, 5, "4 zed", "5 bob")
	checkDone(x, "open ann", 4, 4, "4 ann")
	// With room behind the sessions of both, which would be the same room if it were shared.
	x = roomOf(t, x.r, x.g, "ann", "bob", "cat")
	c = x.copied()
	checkDone(x, "open dan", 4, 4, "1 ann", "2 bob", "3 cat", "4 dan")
	checkDone(c, "open zed", 4, 4, "1 ann", "2 bob", "3 cat", "4 zed")
	checkDone(x, "activate 4 d", 0, 4, "1 ann", "2 bob", "3 cat", "4 dan d")
	checkDone(x, "close 1", 0, 4, "2 bob", "3 cat", "4 dan d")
	checkState(t, c.s, 4, "1 ann", "2 bob", "3 cat", "4 zed")
}
