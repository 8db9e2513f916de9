package chart

import (
	"errors"
	"math/rand"
	"slices"
	"strconv"
	"strings"
	"testing"

	"imprimatur/api"
	"imprimatur/enter"
	"imprimatur/policy"
	"imprimatur/shape"
)

// The chapter once more, in other ways: each rule by itself against those ahead of it; a chart that may be as one that rules make; what is reached as what all sets that nothing leads out of have in common.

// slowState returns what is wrong with the State rule at an index, if all rules ahead of it are right; 0 if nothing is.
func slowState(l []api.Rule, at int) api.Errno {
	r := l[at]
	ahead := map[string]int{}
	for _, other := range l[:at] {
		if other.Kind == api.State {
			ahead[other.Name] = other.N
		}
	}
	parent, there := ahead[r.In]
	if _, twice := ahead[r.Name]; twice {
		return api.ErrThere
	}
	if len(ahead) == api.MaxStates {
		return api.ErrLimit
	}
	if !there && r.In != "" {
		return api.ErrNone
	}
	// kind of the state and of its parent (0: the top), all that may be
	if !strings.Contains(" 10 20 11 21 12 22 31 41 ", " "+strconv.Itoa(10*r.N+parent)+" ") {
		return api.ErrArg
	}
	return 0
}

func slowTrans(l []api.Rule, at int) api.Errno {
	kinds := map[string]int{}
	for _, r := range slices.Backward(l) {
		if r.Kind == api.State {
			kinds[r.Name] = r.N
		}
	}
	ahead := 0
	for _, r := range l[:at] {
		if r.Kind >= api.On {
			ahead++
		}
	}
	switch {
	case ahead == api.MaxTrans:
		return api.ErrLimit
	case kinds[l[at].From] == 0 || kinds[l[at].To] == 0:
		return api.ErrNone
	case kinds[l[at].From] > api.All:
		return api.ErrArg
	}
	return 0
}

// slowFault returns the index of the first rule that is wrong, and what is; 0 if none is.
func slowFault(l []api.Rule) (at int, err api.Errno) {
	for at, r := range l {
		if r.Kind == api.State {
			err = slowState(l, at)
		} else if r.Kind > api.State {
			err = slowTrans(l, at)
		}
		if err != 0 {
			return at, err
		}
	}
	return 0, 0
}

// slowChart returns the chart of rules that are all right.
func slowChart(l []api.Rule) (c Chart) {
	index := map[string]int{"": -1}
	for _, r := range l {
		if r.Kind == api.State {
			index[r.Name] = len(index) - 1
			c.Names = append(c.Names, r.Name)
			c.Shape.Kinds = append(c.Shape.Kinds, r.N)
			c.Shape.Parents = append(c.Shape.Parents, index[r.In])
		}
	}
	for _, r := range l {
		x := Trans{Kind: r.Kind, From: index[r.From], To: index[r.To]}
		switch r.Kind {
		case api.On:
			x.Event, x.Perm, x.Task = r.Name, r.By, r.Task
		case api.Auto:
		case api.After:
			x.Time = r.N
		default:
			continue
		}
		c.Trans = append(c.Trans, x)
	}
	return c
}

// checkCompile holds Compile of rules against the second reading, and returns what it tells: "chart", "shape" or the error's text.
func checkCompile(t *testing.T, l []api.Rule) string {
	t.Helper()
	l = over(l...)
	at, err := slowFault(l)
	if err != 0 {
		checkFault(t, l, at, err)
		return err.Error()
	}
	want := slowChart(l)
	if !shape.Valid(want.Shape) {
		checkNoShape(t, l)
		return "shape"
	}
	checkChart(t, l, want)
	return "chart"
}

// someState returns a State rule behind so many others, most often one that may be.
func someState(random *rand.Rand, ahead int) api.Rule {
	name := func() string { return "s" + strconv.Itoa(random.Intn(ahead+1)) }
	r := api.Rule{Kind: api.State, Name: "s" + strconv.Itoa(ahead), N: api.Plain + random.Intn(4)/3}
	if ahead > 0 && random.Intn(4) > 0 {
		r.In = "s" + strconv.Itoa(random.Intn(ahead))
	}
	switch random.Intn(12) {
	case 0:
		r.Name = name()
	case 1:
		r.In = name()
	case 2, 3, 4:
		r.N += 2
	}
	return r
}

// someOther returns a rule that is no state's, most often one that may be if there are so many states.
func someOther(random *rand.Rand, states int) api.Rule {
	name := func() string { return "s" + strconv.Itoa(random.Intn(states)) }
	if random.Intn(30) == 0 {
		states++
	}
	switch random.Intn(4) {
	case 0:
		return api.Rule{Kind: api.User, Name: name(), List: []string{"a", "b"}}
	case 1:
		return api.Rule{Kind: api.On, Name: name(), From: name(), To: name(), By: []string{"", "p"}[random.Intn(2)], Task: []string{"", "t"}[random.Intn(2)]}
	case 2:
		return api.Rule{Kind: api.Auto, From: name(), To: name()}
	}
	return api.Rule{Kind: api.After, N: 1 + random.Intn(9), From: name(), To: name()}
}

// someRules returns rules that can be printed.
func someRules(random *rand.Rand) (l []api.Rule) {
	states := 1 + random.Intn(6)
	for at := range states {
		l = append(l, someState(random, at))
	}
	for range random.Intn(5) {
		l = slices.Insert(l, random.Intn(len(l)+1), someOther(random, states))
	}
	for i := range l {
		l[i].Line = i + 1
	}
	return l
}

func TestSomeRules(t *testing.T) {
	random := rand.New(rand.NewSource(8))
	told := map[string]int{}
	for range 40000 {
		told[checkCompile(t, someRules(random))]++
		if t.Failed() {
			return
		}
	}
	for _, what := range []string{"chart", "shape", api.ErrThere.Error(), api.ErrNone.Error(), api.ErrArg.Error()} {
		if told[what] < 1000 {
			t.Errorf("%q is told %d times only, of %v", what, told[what], told)
		}
	}
}

// All State rules of few names, one behind the other.
func TestAllShortRules(t *testing.T) {
	var all []api.Rule
	for _, name := range []string{"a", "b", "c"} {
		for kind := api.Plain; kind <= api.Deep; kind++ {
			for _, in := range []string{"", "a", "b"} {
				all = append(all, api.Rule{Kind: api.State, Name: name, N: kind, In: in})
			}
		}
	}
	all = append(all, api.Rule{Kind: api.Auto, From: "a", To: "b"}, api.Rule{Kind: api.On, Name: "e", From: "b", To: "b"})
	charts := 0
	for _, a := range all {
		checkCompile(t, []api.Rule{a})
		for _, b := range all {
			checkCompile(t, []api.Rule{a, b})
			for _, c := range all {
				if checkCompile(t, []api.Rule{a, b, c}) == "chart" {
					charts++
				}
			}
		}
	}
	if charts < 300 {
		t.Errorf("%d charts only", charts)
	}
}

// ruled returns rules that would make a chart; not all charts have them.
func ruled(c Chart) ([]api.Rule, bool) {
	if len(c.Names) != len(c.Shape.Kinds) || len(c.Names) != len(c.Shape.Parents) {
		return nil, false
	}
	names := map[int]string{}
	for i, name := range c.Names {
		names[i] = name
	}
	var l []api.Rule
	for i, name := range c.Names {
		p := c.Shape.Parents[i]
		if _, ok := names[p]; !ok && p != -1 {
			return nil, false
		}
		l = append(l, api.Rule{Kind: api.State, Name: name, N: c.Shape.Kinds[i], In: names[p]})
	}
	for _, x := range c.Trans {
		r := api.Rule{Kind: x.Kind, From: names[x.From], To: names[x.To], Name: x.Event, By: x.Perm, Task: x.Task, N: x.Time}
		if x.Kind < api.On {
			return nil, false
		}
		l = append(l, r)
	}
	return l, true
}

// slowValid reports whether rules make a chart. (Rules have less time than charts may: that is asked elsewhere.)
func slowValid(c Chart) bool {
	l, ok := ruled(c)
	if !ok {
		return false
	}
	made, err := Compile(l)
	return err == nil && same(made, c)
}

// nearly returns whole with one to three things changed.
func nearly(random *rand.Rand) Chart {
	c := whole()
	texts := []string{"", "a", "b", "A", "s1"}
	for range 1 + random.Intn(3) {
		i, x := random.Intn(7), &c.Trans[random.Intn(len(c.Trans))]
		switch random.Intn(10) {
		case 0:
			c.Names[i] = texts[random.Intn(len(texts))]
		case 1:
			c.Shape.Kinds[i] = random.Intn(6)
		case 2:
			c.Shape.Parents[i] = random.Intn(9) - 2
		case 3:
			x.Kind = api.State + random.Intn(5)
		case 4:
			x.From = random.Intn(9) - 1
		case 5:
			x.To = random.Intn(9) - 1
		case 6:
			x.Event = texts[random.Intn(len(texts))]
		case 7:
			x.Perm = texts[random.Intn(len(texts))]
		case 8:
			x.Task = texts[random.Intn(len(texts))]
		case 9:
			x.Time = random.Intn(4) - 1
		}
	}
	return c
}

func TestNearlyWhole(t *testing.T) {
	random := rand.New(rand.NewSource(9))
	valid, others := 0, 0
	for range 40000 {
		c, other := nearly(random), nearly(random)
		want := slowValid(c)
		checkValid(t, want, c)
		checkSame(t, same(c, other), c, other)
		if want {
			valid++
		}
		if same(c, other) {
			others++
		}
		if t.Failed() {
			return
		}
	}
	if valid < 4000 || valid > 36000 || others < 20 {
		t.Errorf("%d are valid, %d the same", valid, others)
	}
}

// closed reports whether a set has all that is reached from it.
func closed(c Chart, set uint32) bool {
	contains := func(l []int) bool {
		return set|states(l...) == set
	}
	if !contains(enter.Start(c.Shape)) {
		return false
	}
	for _, x := range c.Trans {
		if set&states(x.From) == 0 {
			continue
		}
		if !contains(enter.Enter(c.Shape, shape.Domain(c.Shape, x.From, x.To), x.To, nil)) {
			return false
		}
		for kid, p := range c.Shape.Parents {
			if c.Shape.Kinds[x.To] == api.Past && p == c.Shape.Parents[x.To] && set&states(kid) != 0 && !contains(enter.Enter(c.Shape, p, kid, nil)) {
				return false
			}
		}
	}
	return true
}

// slowReach returns what all closed sets of a chart's states have in common.
func slowReach(c Chart) uint32 {
	in := uint32(0)
	for at, kind := range c.Shape.Kinds {
		if kind <= api.All {
			in |= 1 << at
		}
	}
	common := in
	for set := in; set > 0; set = (set - 1) & in {
		if common&^set != 0 && closed(c, set) {
			common &= set
		}
	}
	return common
}

// document is where a document is, and what is remembered of it.
type document struct {
	set  uint32
	past []uint32
}

// visited returns the states that documents of a chart are in on the ways of so many transitions in all.
func visited(random *rand.Rand, c Chart, moves int) (all uint32) {
	d := document{set: states(enter.Start(c.Shape)...)}
	for begin := d; moves > 0; moves-- {
		all |= d.set
		if random.Intn(20) == 0 || len(c.Trans) == 0 {
			d = begin
			continue
		}
		x := c.Trans[random.Intn(len(c.Trans))]
		if d.set&states(x.From) == 0 {
			continue
		}
		domain := shape.Domain(c.Shape, x.From, x.To)
		left := enter.Leave(c.Shape, d.set, domain)
		d.past = enter.Remember(c.Shape, d.set, left, d.past)
		d.set = d.set&^states(left...) | states(enter.Enter(c.Shape, domain, x.To, d.past)...)
	}
	return all
}

// checkWays holds Reach against what documents come to be in: no more than it; all of it, where states are told by no past and no other regions.
func checkWays(t *testing.T, random *rand.Rand, c Chart, moves int) {
	t.Helper()
	set, all := Reach(c), visited(random, c, moves)
	if all&^set != 0 {
		t.Errorf("Reach(%+v) is %b, but documents come to be in %b", c, set, all)
	}
	// All ways of so few states are gone.
	if few := len(c.Names) <= 4 && len(c.Trans) <= 2; few && slices.Max(c.Shape.Kinds) == api.Plain && all != set {
		t.Errorf("Reach(%+v) is %b, but documents come to be in %b alone", c, set, all)
	}
}

// All shapes of few states, with all transitions that there may be, one, two, and some more.
func TestReachOfAllSmallCharts(t *testing.T) {
	random := rand.New(rand.NewSource(10))
	for n := 1; n <= 4; n++ {
		charts := 0
		allShapes(n, func(s shape.Shape) {
			if t.Failed() {
				return
			}
			c := bare(s)
			allPairs(c, func(c Chart) {
				charts++
				checkReachOf(t, c)
				if charts%10 == 0 {
					checkWays(t, random, c, 300)
				}
			})
		})
		if charts < 1<<(2*n) {
			t.Fatalf("of %d states %d charts only", n, charts)
		}
	}
}

func checkReachOf(t *testing.T, c Chart) {
	t.Helper()
	want := slowReach(c)
	defer kept(t, c)()
	if set := Reach(c); set != want {
		t.Errorf("Reach(%+v) is %b, not %b", c, set, want)
	}
}

// allShapes calls f with all valid shapes of n states.
func allShapes(n int, f func(s shape.Shape)) {
	var next func(s shape.Shape)
	next = func(s shape.Shape) {
		at := len(s.Kinds)
		if at == n {
			if shape.Valid(s) {
				f(s)
			}
			return
		}
		for kind := api.Plain; kind <= api.Deep; kind++ {
			for parent := -1; parent < at; parent++ {
				next(shape.Shape{Kinds: append(s.Kinds[:at:at], kind), Parents: append(s.Parents[:at:at], parent)})
			}
		}
	}
	next(shape.Shape{})
}

// allPairs calls f with a chart of each one and each two transitions.
func allPairs(c Chart, f func(c Chart)) {
	n := len(c.Names)
	for a := range n * n {
		c.Trans = []Trans{{Kind: api.Auto, From: a / n, To: a % n}}
		f(c)
		for b := range n * n {
			c.Trans = append(c.Trans[:1:1], Trans{Kind: api.Auto, From: b / n, To: b % n})
			f(c)
		}
	}
}

// bare returns a chart of a shape, without transitions.
func bare(s shape.Shape) Chart {
	c := Chart{Shape: s}
	for i := range s.Kinds {
		c.Names = append(c.Names, "s"+strconv.Itoa(i))
	}
	return c
}

// someChart returns a valid chart of up to n states.
func someChart(random *rand.Rand, most int) Chart {
	for {
		n := 1 + random.Intn(most)
		kinds, parents := make([]int, n), make([]int, n)
		for i := range n {
			kinds[i], parents[i] = api.Plain+random.Intn(5)/4, random.Intn(i+1)-1
			if random.Intn(4) == 0 {
				kinds[i] = api.Past + random.Intn(3)/2
			}
		}
		c := bare(shape.Shape{Kinds: kinds, Parents: parents})
		for range random.Intn(2 * n) {
			c.Trans = append(c.Trans, Trans{Kind: api.Auto, From: random.Intn(n), To: random.Intn(n)})
		}
		c.Trans = slices.DeleteFunc(c.Trans, func(x Trans) bool { return kinds[x.From] > api.All })
		if Valid(c) {
			return spread(c)
		}
	}
}

func TestReachOfSomeCharts(t *testing.T) {
	random := rand.New(rand.NewSource(11))
	part := 0
	for range 4000 {
		c := someChart(random, 10)
		checkReachOf(t, c)
		checkWays(t, random, c, 200)
		if set := Reach(c); set != states(enter.Start(c.Shape)...) && len(c.Names) > 6 {
			part++
		}
		if t.Failed() {
			return
		}
	}
	if part < 500 {
		t.Errorf("%d charts only lead on", part)
	}
	for range 1000 {
		checkWays(t, random, someChart(random, api.MaxStates), 2000)
	}
}

// Texts of all sorts: nothing panics, and a chart that is made is valid and the one that its own rules make.
func FuzzCompile(f *testing.F) {
	for _, s := range []string{"", review, otherKinds, "state a plain;state h past in a", "auto from a to b;state a plain;state b all in a"} {
		f.Add(s)
	}
	f.Fuzz(func(t *testing.T, text string) {
		l, err := policy.Parse(strings.ReplaceAll(text, ";", "\n"))
		if err != nil {
			return
		}
		c, err := Compile(l)
		if err == nil && (!Valid(c) || !slowValid(c) || Reach(c) == 0) || err != nil && !same(c, Chart{}) {
			t.Errorf("Compile(%q) is %+v, %v", text, c, err)
		}
	})
}

// An error that is no fault is ErrArg; a fault wraps one of those of the chapter.
func TestErrorsAreOfTheChapter(t *testing.T) {
	random := rand.New(rand.NewSource(12))
	for range 5000 {
		l := someRules(random)
		if random.Intn(3) == 0 {
			l[random.Intn(len(l))].M = 7
		}
		_, err := Compile(l)
		var f *api.Fault
		if err != nil && !errors.As(err, &f) && !errors.Is(err, api.ErrArg) {
			t.Errorf("Compile(%+v) tells %v", l, err)
		}
	}
}
