package work

import (
	"errors"
	"math/rand"
	"slices"
	"sort"
	"strconv"
	"strings"
	"testing"

	"imprimatur/api"
	"imprimatur/chart"
	"imprimatur/grants"
	"imprimatur/paper"
	"imprimatur/policy"
	"imprimatur/rights"
	"imprimatur/seats"
)

// The chapter once more, in another way: who is above whom is asked of the rules, by names, along all chains of juniors; which transition an event takes is asked of all states that a document is in, from the innermost out; all that is wrong is listed, and the first of the list is told; and what may be done is held against what is then really done on documents.

// rules are the rules of a text, whose lines are separated by semicolons.
type rules []api.Rule

func rulesOf(t *testing.T, text string) rules {
	t.Helper()
	l, err := policy.Parse(strings.ReplaceAll(text, ";", "\n"))
	if err != nil {
		t.Fatalf("%q: %v", text, err)
	}
	return l
}

// named returns the list of the rule of a kind and a name.
func (l rules) named(kind int, name string) (list []string) {
	for _, x := range l {
		if x.Kind == kind && x.Name == name {
			return x.List
		}
	}
	return nil
}

// names returns the names of the rules of a kind.
func (l rules) names(kind int) (names []string) {
	for _, x := range l {
		if x.Kind == kind {
			names = append(names, x.Name)
		}
	}
	return names
}

// reaches reports whether a role is another one, or a chain of juniors leads to it.
func (l rules) reaches(senior, junior string) bool {
	return senior == junior || slices.ContainsFunc(l.named(api.Role, senior), func(next string) bool {
		return l.reaches(next, junior)
	})
}

// gives reports whether one of some roles gives a permission.
func (l rules) gives(roles []string, perm string) bool {
	for _, senior := range roles {
		for _, junior := range l.named(api.Perm, perm) {
			if l.reaches(senior, junior) {
				return true
			}
		}
	}
	return false
}

// apart reports whether some Exclusive has two tasks, which are not the same.
func (l rules) apart(a, b string) bool {
	return a != b && slices.ContainsFunc(l, func(x api.Rule) bool {
		return x.Kind == api.Exclusive && slices.Contains(x.List, a) && slices.Contains(x.List, b)
	})
}

// session is one that there is: whose, and the names of its active roles.
type session struct {
	user   string
	active []string
}

// open returns the sessions that there are, by their numbers.
func (x room) open() map[int]session {
	l := map[int]session{}
	for _, seat := range x.s.List() {
		one := session{user: seat.User}
		for i, role := range x.r.Order().Names() {
			if seat.Active&(1<<i) != 0 {
				one.active = append(one.active, role)
			}
		}
		l[seat.Number] = one
	}
	return l
}

// depth returns how many states a state is within.
func depth(c chart.Chart, at int) (n int) {
	for c.Shape.Parents[at] >= 0 {
		at = c.Shape.Parents[at]
		n++
	}
	return n
}

// answers returns the transitions that answer an event where a document stands: from the innermost states out, and of one depth by their numbers.
func answers(c chart.Chart, p paper.Paper, event string) (l []int) {
	for level := len(c.Shape.Kinds); level >= 0; level-- {
		for i, y := range c.Trans {
			if y.Kind == api.On && y.Event == event && p.At.Set&(1<<y.From) != 0 && depth(c, y.From) == level {
				l = append(l, i)
			}
		}
	}
	return l
}

// events returns the events that a document answers, each at the least number of a transition that answers it.
func events(c chart.Chart, p paper.Paper) []string {
	places := map[string]int{}
	for _, y := range c.Trans {
		if l := answers(c, p, y.Event); len(l) > 0 && y.Kind == api.On {
			places[y.Event] = slices.Min(l)
		}
	}
	var names []string
	for event := range places {
		names = append(names, event)
	}
	sort.Slice(names, func(i, j int) bool { return places[names[i]] < places[names[j]] })
	return names
}

// wrong returns all that is in the way of a session firing an event, the first of it first; none: it may.
func (l rules) wrong(open map[int]session, number int, c chart.Chart, p paper.Paper, event string) (errs []error) {
	x, there := open[number]
	if !there {
		errs = append(errs, api.ErrNone)
	}
	ways := answers(c, p, event)
	if len(ways) == 0 {
		return append(errs, api.ErrState)
	}
	way := c.Trans[ways[0]]
	if way.Perm != "" && !l.gives(x.active, way.Perm) {
		errs = append(errs, api.ErrDenied)
	}
	for _, did := range p.Done {
		if there && did.User == x.user && way.Task != "" && l.apart(did.Task, way.Task) {
			return append(errs, api.ErrDuty)
		}
	}
	return errs
}

// held holds all three calls against the second reading, for some sessions, documents and events, and counts what is told.
func (x room) held(l rules, papers []paper.Paper, names []string, told map[string]int) {
	x.t.Helper()
	open := x.open()
	for number := -1; number <= 8; number++ {
		var items []Item
		for _, p := range papers {
			answered := events(x.c, p)
			if got := Events(x.c, p); !slices.Equal(got, answered) {
				x.t.Fatalf("the events of %+v in %b are %q, not %q", x.c, p.At.Set, got, answered)
			}
			for _, event := range names {
				errs := l.wrong(open, number, x.c, p, event)
				err := May(x.r, x.s, number, x.c, p, event)
				if len(errs) == 0 && err != nil || len(errs) > 0 && err != errs[0] {
					x.t.Fatalf("whether session %d may do %q on %+v in %+v is told as %v, not %v; the sessions are %+v, the rules %+v", number, event, p, x.c, err, errs, open, l)
				}
				told[text(errs)]++
			}
			for _, event := range answered {
				if len(l.wrong(open, number, x.c, p, event)) == 0 {
					items = append(items, Item{p.Name, event})
				}
			}
		}
		if got := List(x.r, x.s, number, x.c, papers); !slices.Equal(got, items) {
			x.t.Fatalf("the list of session %d is %+v, not %+v; the sessions are %+v", number, got, items, open)
		}
		told["items"] += len(items)
	}
}

// text returns errors as a word.
func text(errs []error) string {
	word := ""
	for _, err := range errs {
		switch err {
		case api.ErrNone:
			word += "none "
		case api.ErrState:
			word += "state "
		case api.ErrDenied:
			word += "denied "
		case api.ErrDuty:
			word += "duty "
		}
	}
	return strings.TrimSpace(word)
}

func checkAllTold(t *testing.T, told map[string]int, least int) {
	t.Helper()
	for _, word := range []string{"", "state", "denied", "duty", "denied duty", "none", "none state", "none denied", "items"} {
		if told[word] < least {
			t.Errorf("%q is told %d times only, of %v", word, told[word], told)
		}
	}
}

// lists calls a function with each list of up to so many of some words.
func lists(words []string, longest int, each func(l []string)) {
	var grow func(l []string)
	grow = func(l []string) {
		each(l)
		for _, word := range words {
			if len(l) < longest {
				grow(append(slices.Clone(l), word))
			}
		}
	}
	grow(nil)
}

// Four small shapes with all lists of up to three of eight transitions, with documents in all that they may be in and with up to two of three tasks done, for sessions of two users with unlike roles active, one of them closed.
func TestAllSmallCharts(t *testing.T) {
	const text = "role a > b;role b;user u a;user v b;perm p b;perm q a;exclusive x y"
	l, told := rulesOf(t, text), map[string]int{}
	x := roomOf(t, text, of("", ""), "u", "u a", "u b", "v b", "v", "u a b")
	x.close(5)
	names := []string{"go", "to", "x", ""}
	transitions := strings.Fields("go:0>0 go/p:0>1 go/q=x:1>0 go=y:1>1 to/p=x:0>1 to=y:1>0 0>1 5@1>0")
	var done []string
	lists([]string{"x=u", "y=u", "x=v"}, 2, func(l []string) { done = append(done, strings.Join(l, " ")) })
	for states, sets := range map[string][]string{"p p": {"0", "1"}, "p p0": {"0 1"}, "a p0 p0": {"0 1 2"}, "p p0 p0": {"0 1", "0 2"}} {
		lists(transitions, 3, func(words []string) {
			x.c = of(states, strings.Join(words, " "))
			var papers []paper.Paper
			for i, set := range sets {
				for j, tasks := range done {
					papers = append(papers, paperIn(x.c, "d"+strconv.Itoa(100*i+j), set, tasks))
				}
			}
			defer x.kept(papers...)()
			x.held(l, papers, names, told)
		})
	}
	checkAllTold(t, told, 1000)
}

// some returns some of the words, each with an even chance, at least so many, in any order.
func some(random *rand.Rand, words []string, least int) string {
	l := slices.Clone(words)
	random.Shuffle(len(l), func(i, j int) { l[i], l[j] = l[j], l[i] })
	n := least
	for range len(l) - least {
		n += random.Intn(2)
	}
	return strings.Join(l[:n], " ")
}

func numbered(letter string, n int) (l []string) {
	for i := range n {
		l = append(l, letter+strconv.Itoa(i))
	}
	return l
}

// someLaw returns the text of rules with up to so many roles and users; permissions are p0 to p3, tasks t0 to t4.
func someLaw(random *rand.Rand, roles, users int) string {
	names := numbered("r", 1+random.Intn(roles))
	var lines []string
	for i, name := range names {
		line := "role " + name
		if below := names[i+1:]; len(below) > 0 && random.Intn(2) == 0 {
			line += " > " + below[random.Intn(len(below))]
		}
		lines = append(lines, line, "lend "+name+" 2 30")
	}
	few := func() string {
		return some(random, names[random.Intn(len(names)):], 0)
	}
	for _, user := range numbered("u", 1+random.Intn(users)) {
		lines = append(lines, "user "+user+" "+few())
	}
	for _, perm := range numbered("p", 4) {
		lines = append(lines, "perm "+perm+" "+few())
	}
	for range random.Intn(4) {
		lines = append(lines, "exclusive "+some(random, numbered("t", 5)[random.Intn(3):], 2))
	}
	if len(names) > 2 && random.Intn(2) == 0 {
		lines = append(lines, "dsd 2 "+some(random, names, 2))
	}
	random.Shuffle(len(lines), func(i, j int) { lines[i], lines[j] = lines[j], lines[i] })
	return strings.Join(lines, ";")
}

// someLabel returns what an event asks for: a permission that there is or not, or none, and a task, or none.
func someLabel(random *rand.Rand) string {
	label := ""
	if n := random.Intn(7); n < 5 {
		label += "/p" + strconv.Itoa(n)
	}
	if n := random.Intn(7); n < 5 {
		label += "=t" + strconv.Itoa(n)
	}
	return label
}

// someChart returns a valid chart of up to so many states, whose Ons have one of four events.
func someChart(random *rand.Rand, most, transitions int) chart.Chart {
	for {
		var states, words []string
		n := 1 + random.Intn(most)
		for i := range n {
			word := string("ppppaahd"[random.Intn(8)])
			if parent := random.Intn(i+2) - 1; parent >= 0 {
				word += strconv.Itoa(parent)
			}
			states = append(states, word)
		}
		ways := func() string { return strconv.Itoa(random.Intn(n)) + ">" + strconv.Itoa(random.Intn(n)) }
		for range 1 + random.Intn(transitions) {
			words = append(words, string("abcd"[random.Intn(4)])+someLabel(random)+":"+ways())
		}
		if random.Intn(2) == 0 {
			words = append(words, ways(), "7@"+ways())
		}
		random.Shuffle(len(words), func(i, j int) { words[i], words[j] = words[j], words[i] })
		c := of(strings.Join(states, " "), strings.Join(words, " "))
		if chart.Valid(c) {
			return c
		}
	}
}

// walk is a room with documents, on which things are done.
type walk struct {
	room
	rules  rules
	papers []paper.Paper
	told   map[string]int
}

// someWalk returns one with up to three documents, in the order of no names.
func someWalk(t *testing.T, random *rand.Rand, told map[string]int) *walk {
	t.Helper()
	text := someLaw(random, 5, 4)
	c := someChart(random, 6, 16)
	if random.Intn(9) == 0 {
		c = someChart(random, 12, api.MaxTrans-2)
	}
	w := &walk{room{t, law(t, text), grants.New(), seats.New(), c}, rulesOf(t, text), nil, told}
	for _, name := range []string{"moth", "ant", "zoo"} {
		if p, _, err := paper.New(c, name, 0); err == nil {
			w.papers = append(w.papers, p)
		}
	}
	return w
}

// change opens or closes a session, makes a role active or not, or changes what is lent; whether it is done is not asked here.
func (w *walk) change(random *rand.Rand) {
	pick := func(l []string) string {
		return l[random.Intn(len(l))]
	}
	users, roles, number := w.rules.names(api.User), w.rules.names(api.Role), 1+random.Intn(8)
	switch random.Intn(12) {
	case 0, 1, 2:
		if len(w.s.List()) < 5 {
			w.s.Open(w.r, pick(users))
		}
	case 3:
		w.s.Close(number)
	case 4:
		w.s.Drop(w.r, number, pick(roles))
	case 5, 6:
		w.g.Give(w.r, pick(users), pick(users), pick(roles), 0, 1, 1+random.Intn(9))
	case 7:
		w.g.Expire(random.Intn(9))
		w.s.Prune(w.r, w.g)
	default:
		w.s.Activate(w.r, w.g, number, pick(roles))
	}
}

// fire has a session fire an event of a document: what may be done is done, but for what has no end, and what may not be is not done by that user, or not by that session.
func (w *walk) fire(number, at int, event string) {
	w.t.Helper()
	seat, _ := w.s.Get(number)
	p := w.papers[at]
	err := May(w.r, w.s, number, w.c, p, event)
	trans := paper.Pick(w.c, p, event)
	next, taken, bad := paper.Fire(w.c, p, trans, seat.User, w.r.Apart(), 1)
	switch {
	case err == nil && bad == nil:
		w.told["fired"]++
		w.performed(seat, w.c.Trans[taken[0]])
		w.papers[at] = next
	case err == nil:
		if !errors.Is(bad, api.ErrLoop) {
			w.t.Fatalf("what session %d may do of %q on %+v is not done: %v", number, event, p, bad)
		}
	case errors.Is(err, api.ErrState):
		if trans >= 0 {
			w.t.Fatalf("%q on %+v, which takes %d, is told as %v", event, p, trans, err)
		}
	case errors.Is(err, api.ErrDuty):
		if !errors.Is(bad, api.ErrDuty) {
			w.t.Fatalf("%q on %+v is told as %v, and done with %v", event, p, err, bad)
		}
	}
}

// performed holds that a role is active that a permission is given to, or one above it, which the user has by a rule or by a grant (T2).
func (w *walk) performed(seat seats.Seat, by chart.Trans) {
	w.t.Helper()
	has := slices.Clone(w.rules.named(api.User, seat.User))
	for _, x := range w.g.List() {
		if x.To == seat.User {
			has = append(has, x.Role)
		}
	}
	for _, role := range w.open()[seat.Number].active {
		holds := slices.ContainsFunc(has, func(senior string) bool { return w.rules.reaches(senior, role) })
		if holds && w.rules.gives([]string{role}, by.Perm) {
			return
		}
	}
	if by.Perm != "" {
		w.t.Fatalf("%+v is fired in %+v, and the user has %q", by, seat, has)
	}
}

// separate holds that nobody did two tasks of a list that is to be apart on one document (T3).
func (w *walk) separate() {
	w.t.Helper()
	for _, p := range w.papers {
		for i, a := range p.Done {
			for _, b := range p.Done[:i] {
				if a.User == b.User && w.rules.apart(a.Task, b.Task) {
					w.t.Fatalf("%q did %q and %q on %+v", a.User, a.Task, b.Task, p)
				}
			}
		}
	}
}

// Random laws, charts and sessions, with documents on which all is done that may be done.
func TestRandomWalks(t *testing.T) {
	random := rand.New(rand.NewSource(16))
	told := map[string]int{}
	for range 400 {
		w := someWalk(t, random, told)
		for range 60 {
			w.change(random)
			if len(w.papers) == 0 {
				continue
			}
			for range 3 {
				w.fire(1+random.Intn(8), random.Intn(len(w.papers)), string("abcd"[random.Intn(4)]))
				w.separate()
			}
			kept := w.kept(w.papers...)
			w.held(w.rules, w.papers, []string{"a", "b", "c", "d", "", "e"}, told)
			kept()
			if t.Failed() {
				return
			}
		}
	}
	checkAllTold(t, told, 200)
	if told["fired"] < 2000 {
		t.Errorf("too few events are fired: %v", told)
	}
}

// What the rules allow is not refused: whoever may be brought to fire an event by what can be made active in a new session is listed, and nobody else (T2).
func TestWhoeverMayBeAbleIs(t *testing.T) {
	random := rand.New(rand.NewSource(17))
	can, cannot := 0, 0
	for range 1500 {
		text := someLaw(random, 4, 3)
		l, c := rulesOf(t, text), someChart(random, 5, 8)
		r := law(t, text)
		p, _, err := paper.New(c, "letter", 0)
		if err != nil {
			continue
		}
		for _, user := range l.names(api.User) {
			for _, event := range events(c, p) {
				perm := c.Trans[answers(c, p, event)[0]].Perm
				want := perm == "" || l.gives(l.named(api.User, user), perm)
				if got := listedWithOne(r, c, p, user, event); got != want {
					t.Fatalf("that %q may be able to %q is %t, not %t: %q, %+v", user, event, got, want, text, c)
				}
				if want {
					can++
				} else {
					cannot++
				}
			}
		}
	}
	if can < 300 || cannot < 300 {
		t.Errorf("too few: %d can, %d can't", can, cannot)
	}
}

// listedWithOne reports whether an event is listed for a session of a user in which no role or one role is active, which the user can make active.
func listedWithOne(r *rights.Rights, c chart.Chart, p paper.Paper, user, event string) bool {
	for _, role := range append(r.Order().Names(), "") {
		s := seats.New()
		number, err := s.Open(r, user)
		if err != nil {
			return false
		}
		if role != "" && s.Activate(r, grants.New(), number, role) != nil {
			continue
		}
		if slices.Contains(List(r, s, number, c, []paper.Paper{p}), Item{p.Name, event}) {
			return true
		}
	}
	return false
}
