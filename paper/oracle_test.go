package paper

import (
	"math"
	"math/rand"
	"slices"
	"strconv"
	"strings"
	"testing"

	"imprimatur/api"
	"imprimatur/chart"
	"imprimatur/enter"
	"imprimatur/shape"
	"imprimatur/step"
)

// The chapter once more, in another way: a document is all that was ever taken on it; where it stands and what was done is made of that anew, from its beginning on; all that is wrong is listed, and the first of the list is told.

// act is a transition that was taken, and by whom, if a user fired it.
type act struct {
	trans int
	fired bool
	user  string
	now   int
}

// story is a document: the chart that it is of, its name, when it began, and all that was taken since then.
type story struct {
	c     chart.Chart
	name  string
	begun int
	acts  []act
}

// with returns the story, and what comes behind it.
func (s story) with(a act) story {
	s.acts = append(s.acts[:len(s.acts):len(s.acts)], a)
	return s
}

// stands returns where all that was taken leads.
func (s story) stands() step.Config {
	n := len(s.c.Shape.Kinds)
	x := step.Config{Past: make([]uint32, n), Since: make([]int, n)}
	for _, state := range enter.Start(s.c.Shape) {
		x.Set += 1 << state
		x.Since[state] = s.begun
	}
	for _, a := range s.acts {
		x, _ = step.Take(s.c, x, a.trans, a.now)
	}
	return x
}

// in returns the states that the document is in.
func (s story) in() (l []int) {
	set := s.stands().Set
	for state := range 32 {
		if set&(1<<state) != 0 {
			l = append(l, state)
		}
	}
	return l
}

func (s story) paper() Paper {
	p := Paper{Name: s.name, At: s.stands()}
	for _, a := range s.acts {
		if task := s.c.Trans[a.trans].Task; a.fired && task != "" {
			p.Done = append(p.Done, Done{task, a.user})
		}
	}
	return p
}

// did returns the tasks that a user did.
func (s story) did(user string) (l []string) {
	for _, a := range s.acts {
		if a.fired && a.user == user && s.c.Trans[a.trans].Task != "" {
			l = append(l, s.c.Trans[a.trans].Task)
		}
	}
	return l
}

// names returns the names of the states that the document is in.
func (s story) names() (l []string) {
	for _, state := range s.in() {
		l = append(l, s.c.Names[state])
	}
	return l
}

// level returns how many states a state is in.
func (s story) level(state int) int {
	n := 0
	for up := s.c.Shape.Parents[state]; up >= 0; up = s.c.Shape.Parents[up] {
		n++
	}
	return n
}

// first returns the first of the innermost transitions of a kind and an event from where the document is, -1 if there is none.
func (s story) first(kind int, event string) int {
	best, in := -1, s.in()
	for i, x := range slices.Backward(s.c.Trans) {
		if x.Kind != kind || x.Event != event || !slices.Contains(in, x.From) {
			continue
		}
		if best < 0 || s.level(x.From) >= s.level(s.c.Trans[best].From) {
			best = i
		}
	}
	return best
}

// settled returns the story with all that goes by itself, and that; false tells that it is more than are left.
func (s story) settled(now, left int) (story, []int, bool) {
	trans := s.first(api.Auto, "")
	if trans < 0 {
		return s, nil, true
	}
	if left == 0 {
		return s, nil, false
	}
	s, behind, ok := s.with(act{trans: trans, now: now}).settled(now, left-1)
	return s, append([]int{trans}, behind...), ok
}

// breaks reports whether some of the lists of a text has a task, and another one that a user did.
func (s story) breaks(task, user, apart string) bool {
	for _, list := range strings.Fields(apart) {
		l := strings.Split(list, ",")
		for _, other := range s.did(user) {
			if other != task && slices.Contains(l, task) && slices.Contains(l, other) {
				return true
			}
		}
	}
	return false
}

// moved returns the story behind a transition of a kind, what was taken, and all that is wrong with it, in order.
func (s story) moved(kind int, a act, apart string) (next story, taken []int, wrong []error) {
	if a.trans < 0 || a.trans >= len(s.c.Trans) {
		return story{}, nil, []error{api.ErrArg}
	}
	x := s.c.Trans[a.trans]
	if x.Kind != kind {
		wrong = append(wrong, api.ErrArg)
	}
	if !slices.Contains(s.in(), x.From) {
		return story{}, nil, append(wrong, api.ErrState)
	}
	if a.fired && s.breaks(x.Task, a.user, apart) {
		wrong = append(wrong, api.ErrDuty)
	}
	next, taken, ok := s.with(a).settled(a.now, api.MaxMicro)
	if !ok {
		wrong = append(wrong, api.ErrLoop)
	}
	return next, append([]int{a.trans}, taken...), wrong
}

// walker goes ways of documents, and counts what it comes by, so that a test can tell whether it saw enough.
type walker struct {
	random *rand.Rand
	apart  string
	fired  int
	late   int
	autos  int
	picked int
	done   int
	wrong  map[error]int
	pairs  int
}

func newWalker(seed int64, apart string) *walker {
	return &walker{random: rand.New(rand.NewSource(seed)), apart: apart, wrong: map[error]int{}}
}

var users = []string{"ann", "bob"}

// begin holds New against the second reading; false tells that there is no document.
func (w *walker) begin(t *testing.T, c chart.Chart, name string, now int) (story, bool) {
	t.Helper()
	if !chart.Valid(c) {
		checkNewError(t, c, name, now, api.ErrArg)
		return story{}, false
	}
	s, taken, ok := story{c: c, name: name, begun: now}.settled(now, api.MaxMicro)
	if !ok {
		w.wrong[api.ErrLoop]++
		checkNewError(t, c, name, now, api.ErrLoop)
		return story{}, false
	}
	checkNew(t, c, name, now, s.paper(), taken...)
	return s, true
}

// checkAll holds all calls for a document against the second reading, and returns the documents that they lead to.
func (w *walker) checkAll(t *testing.T, s story, now int) (next []story) {
	t.Helper()
	p := roomy(s.paper())
	w.checkWhole(t, s, p)
	for _, event := range []string{"e0", "e1", "e2", ""} {
		want := s.first(api.On, event)
		checkPick(t, s.c, p, event, want)
		if want >= 0 {
			w.picked++
		}
	}
	for _, user := range append(users, "cat") {
		checkTasks(t, p, user, s.did(user)...)
	}
	checkStates(t, s.c, p, s.names()...)
	for trans := -1; trans <= len(s.c.Trans); trans++ {
		for _, user := range users {
			next = append(next, w.fire(t, s, p, firing{trans, user, w.apart, now})...)
		}
		next = append(next, w.lateOf(t, s, p, trans, now)...)
	}
	return next
}

// checkWhole asks for what always holds of a document: it is in a configuration (T6), and nobody did two tasks that are apart (T3).
func (w *walker) checkWhole(t *testing.T, s story, p Paper) {
	t.Helper()
	if !shape.Proper(s.c.Shape, p.At.Set) {
		t.Errorf("in %+v a document comes to be in %b", s.c, p.At.Set)
	}
	for _, user := range users {
		for _, list := range strings.Fields(w.apart) {
			l := slices.DeleteFunc(strings.Split(list, ","), func(task string) bool { return !slices.Contains(s.did(user), task) })
			if len(l) > 1 {
				t.Errorf("%s did %q of %q", user, l, list)
			}
		}
	}
	if len(p.Done) > 0 {
		w.done++
	}
}

func (w *walker) fire(t *testing.T, s story, p Paper, f firing) []story {
	t.Helper()
	next, taken, wrong := s.moved(api.On, act{f.trans, true, f.user, f.now}, f.apart)
	if len(wrong) > 0 {
		w.count(wrong)
		checkFireError(t, s.c, p, f, wrong[0])
		return nil
	}
	w.fired++
	w.autos += len(taken) - 1
	checkFire(t, s.c, p, f, next.paper(), taken...)
	return []story{next}
}

func (w *walker) lateOf(t *testing.T, s story, p Paper, trans, now int) []story {
	t.Helper()
	next, taken, wrong := s.moved(api.After, act{trans: trans, now: now}, "")
	if len(wrong) > 0 {
		w.count(wrong)
		checkLateError(t, s.c, p, trans, now, wrong[0])
		return nil
	}
	w.late++
	w.autos += len(taken) - 1
	checkLate(t, s.c, p, trans, now, next.paper(), taken...)
	return []story{next}
}

func (w *walker) count(wrong []error) {
	w.wrong[wrong[0]]++
	if len(wrong) > 1 {
		w.pairs++
	}
}

// enough asks whether a test saw each thing at least so many times.
func (w *walker) enough(t *testing.T, n int) {
	t.Helper()
	counts := []int{w.fired, w.late, w.autos, w.picked, w.done, w.pairs}
	for _, err := range []error{api.ErrArg, api.ErrState, api.ErrDuty, api.ErrLoop} {
		counts = append(counts, w.wrong[err])
	}
	if slices.Min(counts) < n {
		t.Errorf("too little is asked: %v", counts)
	}
}

// checkChains holds all chains of up to so many calls behind a document.
func (w *walker) checkChains(t *testing.T, s story, now, calls int) {
	t.Helper()
	next := w.checkAll(t, s, now)
	if calls == 0 || t.Failed() {
		return
	}
	for _, one := range next {
		w.checkChains(t, one, now+1, calls-1)
	}
}

// All charts of two states with up to three of some transitions, and all chains of up to two calls.
func TestAllSmallCharts(t *testing.T) {
	words := strings.Fields("e0/a:0>1 e0/b:1>0 e1/b:0>0 e1:0>1 0>1 1>0 5@0>1 5@1>1")
	w := newWalker(1, "a,b")
	var next func(l []string)
	next = func(l []string) {
		if s, ok := w.begin(t, of("p p", strings.Join(l, " ")), "letter", 3); ok {
			w.checkChains(t, s, 4, 2)
		}
		if len(l) == 3 || t.Failed() {
			return
		}
		for _, word := range words {
			next(append(l[:len(l):len(l)], word))
		}
	}
	next(nil)
	w.enough(t, 40)
}

// All chains of up to four calls in some charts.
func TestAllChains(t *testing.T) {
	w := newWalker(2, "a,b b,c,d")
	for _, test := range []struct {
		states, transitions string
	}{
		{"p", "e0/a:0>0 e1/b:0>0 e1/c:0>0"},
		{"p p p0 p0 h0", "e0/a:2>3 e0/b:3>1 5@1>4 e1:1>0"},
		{"p a p1 p1 p2 p2 p3 p3", "e0/a:0>1 e0/b:4>5 e0/d:6>7 5@7>6 e2:1>0"},
		{"p p p p0 p0 d0", "e0/a:3>4 e1/c:0>1 1>2 2>5 e2:0>1 7@0>1"},
		{"p p", "e0/a:0>1 1>1 e1/b:0>0 e2/a:0>0"},
	} {
		s, ok := w.begin(t, of(test.states, test.transitions), "letter", 0)
		if !ok {
			t.Fatalf("no document of %+v", test)
		}
		w.checkChains(t, s, 1, 4)
	}
	w.enough(t, 50)
}

// someChart returns a valid chart, with tasks, and with few Autos, so that most of them come to an end.
func someChart(random *rand.Rand) chart.Chart {
	for {
		n := 1 + random.Intn(api.MaxStates)
		var states, transitions []string
		for i := range n {
			states = append(states, someState(random, states[:i]))
		}
		for range random.Intn(api.MaxTrans - 12) {
			transitions = append(transitions, someTransition(random, n))
		}
		for range random.Intn(12) {
			from := random.Intn(n)
			word := strconv.Itoa(from) + ">" + strconv.Itoa(min(n-1, from+1+random.Intn(6)))
			transitions = slices.Insert(transitions, random.Intn(len(transitions)+1), word)
		}
		c := of(strings.Join(states, " "), strings.Join(transitions, " "))
		c.Trans = slices.DeleteFunc(c.Trans, func(x chart.Trans) bool { return c.Shape.Kinds[x.From] > api.All })
		if c = spread(c); chart.Valid(c) {
			return c
		}
	}
}

// someState returns a state behind others: in one of them, if there is one that it may stand in.
func someState(random *rand.Rand, ahead []string) string {
	kind := string("ppppahd"[random.Intn(7)])
	for up := random.Intn(len(ahead)+1) - 1; up >= 0; up-- {
		if ahead[up][0] == 'p' || ahead[up][0] == 'a' && strings.Contains("pa", kind) {
			return kind + strconv.Itoa(up)
		}
	}
	return string("pa"[random.Intn(2)])
}

func someTransition(random *rand.Rand, states int) string {
	ways := strconv.Itoa(random.Intn(states)) + ">" + strconv.Itoa(random.Intn(states))
	switch random.Intn(5) {
	case 0:
		return strconv.Itoa(1+random.Intn(9)) + "@" + ways
	case 1:
		return "e" + strconv.Itoa(random.Intn(3)) + ":" + ways
	}
	return "e" + strconv.Itoa(random.Intn(3)) + "/" + string("abcdef"[random.Intn(6)]) + ":" + ways
}

// someApart returns some lists of the tasks that there may be.
func someApart(random *rand.Rand) string {
	var lists []string
	for range random.Intn(4) {
		l := strings.Split("abcdef", "")
		random.Shuffle(len(l), func(i, j int) { l[i], l[j] = l[j], l[i] })
		lists = append(lists, strings.Join(l[:2+random.Intn(3)], ","))
	}
	return strings.Join(lists, " ")
}

// walk goes one way of a document of some chart.
func (w *walker) walk(t *testing.T, c chart.Chart, begun, calls int) {
	t.Helper()
	s, ok := w.begin(t, c, "letter", begun)
	for now := begun + 1; ok && calls > 0 && !t.Failed(); now, calls = now+w.random.Intn(3), calls-1 {
		next := w.checkAll(t, s, now)
		if len(next) == 0 {
			return
		}
		s = next[w.random.Intn(len(next))]
	}
}

func TestSomeCharts(t *testing.T) {
	w := newWalker(3, "")
	for range 200 {
		c := someChart(w.random)
		w.apart = someApart(w.random)
		w.walk(t, c, w.random.Intn(100), 10)
		if t.Failed() {
			return
		}
	}
	w.enough(t, 300)
}

// What is no chart, or no document of it, ends no call.
func TestOddArguments(t *testing.T) {
	odd := []int{math.MinInt, -33, -2, -1, 0, 1, 2, 3, 5, 31, 32, 64, math.MaxInt}
	papers := []Paper{
		{},
		{At: step.Config{Set: math.MaxUint32}},
		{At: step.Config{Set: 1, Past: []uint32{math.MaxUint32}, Since: []int{9}}, Done: []Done{{}}},
		{At: step.Config{Set: 2, Past: make([]uint32, 40), Since: make([]int, 40)}, Done: []Done{{"a", "ann"}}},
	}
	for _, a := range odd {
		for _, b := range odd {
			for _, parents := range [][]int{nil, {-1}, {-1, 0}, {1, 0}, {-1, -1, -1, -1}, {b, a}} {
				c := chart.Chart{Names: []string{"", "x", "\xff"}, Shape: shape.Shape{Kinds: []int{1, 1 + a&3}, Parents: parents}}
				c.Trans = []chart.Trans{{Kind: api.On, From: a, To: b, Task: "b"}, {Kind: api.After, From: 0, To: b, Task: "b"}, {Kind: api.Auto, From: b, To: 0}, {Kind: a, From: 1, To: 1}}
				checkNewError(t, c, "letter", 0, api.ErrArg)
				for _, p := range papers {
					Pick(c, p, "")
					Tasks(p, "ann")
					States(c, p)
					for trans := -1; trans <= len(c.Trans); trans++ {
						q, taken, err := Fire(c, p, trans, "ann", [][]string{{"a", "b"}, nil}, b)
						checkZero(t, q, taken, err)
						q, taken, err = Late(c, p, trans, b)
						checkZero(t, q, taken, err)
					}
				}
			}
		}
	}
}

// checkZero asks that beside an error, and beside it alone, there is nothing (R3).
func checkZero(t *testing.T, p Paper, taken []int, err error) {
	t.Helper()
	if err != nil && (!equal(p, Paper{}) || len(taken) != 0) || err == nil && len(taken) == 0 {
		t.Errorf("%+v, %v, %v", p, taken, err)
	}
}

// FuzzPapers goes ways through charts that bytes tell.
func FuzzPapers(f *testing.F) {
	for _, seed := range []int64{1, 2, 3, 99} {
		f.Add(seed, int64(7), 5)
	}
	f.Add(int64(0), int64(-1), api.MaxTime)
	f.Fuzz(func(t *testing.T, seed, ways int64, now int) {
		w := newWalker(ways, "")
		w.apart = someApart(w.random)
		w.walk(t, someChart(rand.New(rand.NewSource(seed))), now&(api.MaxTime-1), 8)
	})
}
