package work

import (
	"reflect"
	"slices"
	"strconv"
	"strings"
	"testing"

	"imprimatur/api"
	"imprimatur/chart"
	"imprimatur/grants"
	"imprimatur/paper"
	"imprimatur/policy"
	"imprimatur/rights"
	"imprimatur/seats"
	"imprimatur/shape"
	"imprimatur/step"
)

// of returns a chart: its states as in "p a1 h0" (p, a, h or d for Plain, All, Past or Deep, and the parent's index, none: the top).
// Its transitions are as in "0>1 go:2>0 go/write=draft:0>1 5@1>2": an Auto, an On with its event, one with a permission and a task, too, an After with its time.
// Where a word tells no states, as in "go/write=draft", the transition leads from 0 to 0.
// Beyond its lists is memory that would change the answers if it were read.
func of(states, transitions string) chart.Chart {
	var c chart.Chart
	for i, word := range strings.Fields(states) {
		parent := -1
		if len(word) > 1 {
			parent = number(word[1:])
		}
		c.Names = append(c.Names, "s"+strconv.Itoa(i))
		c.Shape.Kinds = append(c.Shape.Kinds, 1+strings.IndexByte("pahd", word[0]))
		c.Shape.Parents = append(c.Shape.Parents, parent)
	}
	for _, word := range strings.Fields(transitions) {
		if !strings.Contains(word, ">") {
			word += ":0>0"
		}
		c.Trans = append(c.Trans, transition(word))
	}
	return chart.Chart{
		Names: beyond(c.Names, "beyond"),
		Shape: shape.Shape{Kinds: beyond(c.Shape.Kinds, api.Plain), Parents: beyond(c.Shape.Parents, -1)},
		Trans: beyond(c.Trans, chart.Trans{Kind: api.On, Event: "go"}),
	}
}

func transition(word string) chart.Trans {
	x := chart.Trans{Kind: api.Auto}
	if label, ways, ok := strings.Cut(word, ":"); ok {
		x.Kind, word = api.On, ways
		label, x.Task, _ = strings.Cut(label, "=")
		x.Event, x.Perm, _ = strings.Cut(label, "/")
	}
	if time, ways, ok := strings.Cut(word, "@"); ok {
		x.Kind, x.Time, word = api.After, number(time), ways
	}
	from, to, _ := strings.Cut(word, ">")
	x.From, x.To = number(from), number(to)
	return x
}

func number(word string) int {
	n, err := strconv.Atoi(word)
	if err != nil {
		panic(err)
	}
	return n
}

// paperIn returns a document of a chart: the states that it is in, as in "0 2", what was done on it, as in "write=ann check=bob".
// Beyond its lists is memory that would change the answers if it were read.
func paperIn(c chart.Chart, name, states, done string) paper.Paper {
	p := paper.Paper{Name: name}
	n := len(c.Shape.Kinds)
	p.At.Past, p.At.Since = beyond(make([]uint32, n), 3), beyond(make([]int, n), 77)
	for _, word := range strings.Fields(states) {
		p.At.Set |= 1 << number(word)
		p.At.Since[number(word)] = 7
	}
	for _, word := range strings.Fields(done) {
		task, user, _ := strings.Cut(word, "=")
		p.Done = append(p.Done, paper.Done{Task: task, User: user})
	}
	p.Done = beyond(p.Done, paper.Done{Task: "x", User: "ann"})
	return p
}

// beyond returns a copy of a list, with more behind its end.
func beyond[E any](l []E, more E) []E {
	return append(slices.Clone(l), more, more, more)[:len(l)]
}

// copied returns a copy of a list, with what is beyond it.
func copied[E any](l []E) []E {
	return slices.Clone(l[:cap(l)])
}

func fill[E any](l []E, with E) {
	l = l[:cap(l)]
	for i := range l {
		l[i] = with
	}
}

// law returns the rights of a text, whose lines are separated by semicolons.
func law(t *testing.T, text string) *rights.Rights {
	t.Helper()
	l, err := policy.Parse(strings.ReplaceAll(text, ";", "\n"))
	if err != nil {
		t.Fatalf("%q: %v", text, err)
	}
	r, err := rights.Compile(l)
	if err != nil {
		t.Fatalf("%q: %v", text, err)
	}
	return r
}

// room is what is asked beside documents: rights and sessions (with the grants by which their roles became active), and a chart.
type room struct {
	t *testing.T
	r *rights.Rights
	g *grants.Grants
	s *seats.Seats
	c chart.Chart
}

// roomOf returns a room with sessions of the users that some texts name first, in which the roles are active that they name behind.
func roomOf(t *testing.T, text string, c chart.Chart, sessions ...string) room {
	t.Helper()
	x := room{t, law(t, text), grants.New(), seats.New(), c}
	for i, session := range sessions {
		w := strings.Fields(session)
		if n, err := x.s.Open(x.r, w[0]); n != i+1 || err != nil {
			t.Fatalf("%q is opened as %d, %v", session, n, err)
		}
		for _, role := range w[1:] {
			x.activate(i+1, role)
		}
	}
	return x
}

// with returns the same room with another chart.
func (x room) with(c chart.Chart) room {
	x.c = c
	return x
}

func (x room) activate(session int, role string) {
	x.t.Helper()
	if err := x.s.Activate(x.r, x.g, session, role); err != nil {
		x.t.Fatalf("%q is activated in %d with %v", role, session, err)
	}
}

func (x room) drop(session int, role string) {
	x.t.Helper()
	if err := x.s.Drop(x.r, session, role); err != nil {
		x.t.Fatalf("%q is dropped in %d with %v", role, session, err)
	}
}

func (x room) close(session int) {
	x.t.Helper()
	if err := x.s.Close(session); err != nil {
		x.t.Fatalf("%d is closed with %v", session, err)
	}
}

// give adds a grant of "FROM TO ROLE WAY NOW TIME".
func (x room) give(text string) {
	x.t.Helper()
	w := strings.Fields(text)
	if _, err := x.g.Give(x.r, w[0], w[1], w[2], number(w[3]), number(w[4]), number(w[5])); err != nil {
		x.t.Fatalf("%q is given with %v", text, err)
	}
}

// whole returns all that the rights and the sessions of a room tell, and the chart with what is beyond its lists.
func (x room) whole() []any {
	l := []any{copied(x.c.Names), copied(x.c.Shape.Kinds), copied(x.c.Shape.Parents), copied(x.c.Trans)}
	if x.r == nil {
		return l
	}
	l = append(l, x.r.Order().Names(), x.r.Users(), x.r.Perms(), x.r.Static(), x.r.Dynamic(), x.r.Apart(), x.g.List(), x.s.List())
	for _, user := range x.r.Users() {
		l = append(l, x.r.Has(user), x.r.Order().Down(x.r.Has(user)), x.g.Holds(x.r, user))
	}
	for _, perm := range x.r.Perms() {
		l = append(l, x.r.Gives(perm))
	}
	// The number of the next session is kept, too.
	other := x.s.Clone()
	for _, seat := range other.List() {
		other.Close(seat.Number)
	}
	next, err := other.Open(law(x.t, "user x"), "x")
	return append(l, next, err)
}

// kept asks, when it is called behind a call, whether its arguments are as they were, the memory beyond their lists included (R4).
func (x room) kept(papers ...paper.Paper) func() {
	x.t.Helper()
	all := func() []any {
		l := x.whole()
		for _, p := range papers[:cap(papers)] {
			l = append(l, p.Name, p.At.Set, copied(p.At.Past), copied(p.At.Since), copied(p.Done))
		}
		return l
	}
	before := all()
	return func() {
		x.t.Helper()
		if after := all(); !reflect.DeepEqual(before, after) {
			x.t.Errorf("%+v became %+v", before, after)
		}
	}
}

// checkEvents asks Events twice, and changes the first answer ahead of the second (R4); the events are separated by blanks.
func checkEvents(t *testing.T, c chart.Chart, p paper.Paper, want string) {
	t.Helper()
	defer room{t: t, c: c}.kept(p)()
	for range 2 {
		l := Events(c, p)
		if !slices.Equal(l, strings.Fields(want)) {
			t.Errorf("the events of %+v in %b are %q, not %q", c.Trans, p.At.Set, l, want)
		}
		fill(l, "wiped")
	}
}

// checkMay asks May twice; an error is one of package api's numbers.
func (x room) checkMay(session int, p paper.Paper, event string, want error) {
	x.t.Helper()
	defer x.kept(p)()
	for range 2 {
		if err := May(x.r, x.s, session, x.c, p, event); err != want {
			x.t.Errorf("whether session %d may do %q on %+v is told as %v, not %v; the sessions are %+v", session, event, p, err, want, x.s.List())
		}
	}
}

// checkAll asks May for some sessions, in order: what is told of each.
func (x room) checkAll(p paper.Paper, event string, want ...error) {
	x.t.Helper()
	for i, err := range want {
		x.checkMay(i+1, p, event, err)
	}
}

// checkList asks List twice, and changes the first answer ahead of the second (R4); an item is told as "letter:go".
// What is listed is just what May allows of all events.
func (x room) checkList(session int, papers []paper.Paper, want string) {
	x.t.Helper()
	papers = beyond(papers, paper.Paper{Name: "beyond", At: step.Config{Set: 1}})
	defer x.kept(papers...)()
	for range 2 {
		l := List(x.r, x.s, session, x.c, papers)
		if got := strings.Join(textsOf(l), " "); got != want {
			x.t.Errorf("the list of session %d is %q, not %q; the sessions are %+v", session, got, want, x.s.List())
		}
		fill(l, Item{"wiped", "wiped"})
	}
	if got := strings.Join(textsOf(x.allowed(session, papers)), " "); got != want {
		x.t.Errorf("session %d may do %q, not %q", session, got, want)
	}
}

// allowed returns what May allows of the events of documents.
func (x room) allowed(session int, papers []paper.Paper) (l []Item) {
	for _, p := range papers {
		for _, event := range Events(x.c, p) {
			if May(x.r, x.s, session, x.c, p, event) == nil {
				l = append(l, Item{p.Name, event})
			}
		}
	}
	return l
}

func textsOf(l []Item) (texts []string) {
	for _, x := range l {
		texts = append(texts, x.Doc+":"+x.Event)
	}
	return texts
}
