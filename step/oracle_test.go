package step

import (
	"errors"
	"math"
	"math/rand"
	"slices"
	"strconv"
	"testing"

	"imprimatur/api"
	"imprimatur/chart"
	"imprimatur/shape"
)

// The chapter once more, in another way: a document as a tree of nodes that is walked from the top, without a call of the packages below.

type node struct {
	at, kind, since int
	in              bool
	kids            []*node
	up              *node
	was             []*node // what was in it when it was left last
}

// tree is a document: its nodes by their indices, under a top that it never leaves.
type tree struct {
	top *node
	all []*node
}

func plant(c chart.Chart, x Config) tree {
	d := tree{top: &node{at: -1, kind: api.Plain, in: true}}
	for i, kind := range c.Shape.Kinds {
		n := &node{at: i, kind: kind, up: d.top, in: x.Set&(1<<i) != 0, since: x.Since[i]}
		if p := c.Shape.Parents[i]; p >= 0 {
			n.up = d.all[p]
		}
		n.up.kids = append(n.up.kids, n)
		d.all = append(d.all, n)
	}
	for i, set := range x.Past {
		for at, n := range d.all {
			if set&(1<<at) != 0 {
				d.all[i].was = append(d.all[i].was, n)
			}
		}
	}
	return d
}

// config returns the Config of a tree.
func (d tree) config() Config {
	x := Config{}
	for i, n := range d.all {
		past := uint32(0)
		for _, m := range n.was {
			past += 1 << m.at
		}
		x.Past, x.Since = append(x.Past, past), append(x.Since, n.since)
		if n.in {
			x.Set += 1 << i
		}
	}
	return x
}

// within returns what is under a node and the document is in, in the order of the indices.
func (n *node) within() (l []*node) {
	for _, kid := range n.kids {
		if kid.in {
			l = append(append(l, kid), kid.within()...)
		}
	}
	slices.SortFunc(l, func(a, b *node) int { return a.at - b.at })
	return l
}

func (n *node) returns() bool {
	return slices.ContainsFunc(n.kids, func(kid *node) bool { return kid.kind > api.All })
}

// leave leaves a node, all that is in it first.
func (n *node) leave() {
	was := n.within()
	for _, kid := range n.kids {
		if kid.in {
			kid.leave()
		}
	}
	n.in, n.since = false, 0
	if n.returns() {
		n.was = was
	}
}

func (n *node) stand(now int) {
	n.in, n.since = true, now
}

// first enters the first child of a node that a document may be in, if there is one.
func (n *node) first(now int) {
	for _, kid := range n.kids {
		if kid.kind <= api.All {
			kid.enter(now)
			return
		}
	}
}

// enter enters a node completely.
func (n *node) enter(now int) {
	switch n.kind {
	case api.Plain:
		n.stand(now)
		n.first(now)
	case api.All:
		n.stand(now)
		for _, kid := range n.kids {
			kid.enter(now)
		}
	default:
		n.again(now)
	}
}

// again enters what was in the parent of a Past or a Deep.
func (n *node) again(now int) {
	if len(n.up.was) == 0 {
		n.up.first(now)
	}
	for _, m := range n.up.was {
		if n.kind == api.Deep {
			m.stand(now)
		} else if m.up == n.up {
			m.enter(now)
		}
	}
}

// way returns the nodes from a node up to the top, without the node and the top.
func (n *node) way() (l []*node) {
	for m := n.up; m.at >= 0; m = m.up {
		l = append(l, m)
	}
	return l
}

// move takes the document from one node to another.
func (d tree) move(from, to *node, now int) {
	domain := d.top
	for _, n := range slices.Backward(from.way()) {
		if n.kind == api.Plain && slices.Contains(to.way(), n) {
			domain = n
		}
	}
	for _, kid := range domain.kids {
		if kid.in {
			kid.leave()
		}
	}
	// From to outwards; what is beside the way is entered with it, since the order has no part in the answer.
	to.enter(now)
	for inner := to; inner.up != domain; inner = inner.up {
		inner.up.stand(now)
		for _, kid := range inner.up.kids {
			if inner.up.kind == api.All && kid != inner {
				kid.enter(now)
			}
		}
	}
}

// slowEnabled asks level by level.
func slowEnabled(c chart.Chart, x Config, kind int, event string) (l []int) {
	d := plant(c, x)
	for level := len(d.all); level >= 0; level-- {
		for i, t := range c.Trans {
			n := d.all[t.From]
			if len(n.way()) == level && n.in && t.Kind == kind && (t.Event == event || kind != api.On) {
				l = append(l, i)
			}
		}
	}
	return l
}

func slowTake(c chart.Chart, x Config, trans, now int) Config {
	d := plant(c, x)
	d.move(d.all[c.Trans[trans].From], d.all[c.Trans[trans].To], now)
	return d.config()
}

// slowRun takes one and runs the rest; false tells that it took more than are left.
func slowRun(c chart.Chart, x Config, now, left int) (Config, []int, bool) {
	l := slowEnabled(c, x, api.Auto, "")
	if len(l) == 0 {
		return x, nil, true
	}
	if left == 0 {
		return Config{}, nil, false
	}
	x, behind, ok := slowRun(c, slowTake(c, x, l[0], now), now, left-1)
	return x, append([]int{l[0]}, behind...), ok
}

func slowBegin(c chart.Chart, now int) Config {
	n := len(c.Shape.Kinds)
	d := plant(c, Config{Past: make([]uint32, n), Since: make([]int, n)})
	d.top.first(now)
	return d.config()
}

// walker goes through charts, and counts what it comes by, so that a test can tell whether it saw enough.
type walker struct {
	random                                    *rand.Rand
	moves, returns, runs, longs, loops, mixed int
}

// checkAll holds all calls for a document against the second reading, and returns where one of them leads.
func (w *walker) checkAll(t *testing.T, c chart.Chart, x Config, now int) Config {
	t.Helper()
	if !shape.Proper(c.Shape, x.Set) {
		t.Errorf("in %+v a document comes to be in %b", c, x.Set)
	}
	x = Config{Set: x.Set, Past: beyond(x.Past, 3), Since: beyond(x.Since, 77)}
	event := "e" + strconv.Itoa(w.random.Intn(3))
	for _, kind := range []int{api.On, api.Auto, api.After, 12} {
		checkEnabled(t, c, x, kind, event, slowEnabled(c, x, kind, event)...)
	}
	w.checkRunOf(t, c, x, now)
	next := x
	for _, trans := range append(w.random.Perm(len(c.Trans)), -1, len(c.Trans)) {
		if trans < 0 || trans == len(c.Trans) {
			checkTakeError(t, c, x, trans, api.ErrArg)
		} else if x.Set>>c.Trans[trans].From&1 == 0 {
			checkTakeError(t, c, x, trans, api.ErrState)
		} else {
			want := slowTake(c, x, trans, now)
			checkTake(t, c, x, trans, now, want)
			next = want
			w.count(c, x, next, trans)
		}
	}
	return next
}

func (w *walker) checkRunOf(t *testing.T, c chart.Chart, x Config, now int) {
	t.Helper()
	want, taken, ok := slowRun(c, x, now, api.MaxMicro)
	if !ok {
		w.loops++
		checkRunError(t, c, x)
		return
	}
	checkRun(t, c, x, now, want, taken...)
	if len(taken) > 1 {
		w.runs++
	}
	if len(taken) > 4 {
		w.longs++
	}
}

func (w *walker) count(c chart.Chart, x, next Config, trans int) {
	w.moves++
	if c.Shape.Kinds[c.Trans[trans].To] > api.All && !slices.Equal(x.Past, next.Past) {
		w.returns++
	}
	stays, changes := 0, 0
	for i := range x.Since {
		if x.Set&next.Set>>i&1 == 1 {
			if x.Since[i] == next.Since[i] {
				stays++
			} else {
				changes++
			}
		}
	}
	if stays > 0 && changes > 0 {
		w.mixed++
	}
}

// checkBeginOf holds Begin against the second reading, and returns where a document begins.
func (w *walker) checkBeginOf(t *testing.T, c chart.Chart, now int) Config {
	t.Helper()
	begin := slowBegin(c, now)
	want, taken, ok := slowRun(c, begin, now, api.MaxMicro)
	switch {
	case !chart.Valid(c):
		checkBeginError(t, c, api.ErrArg)
	case !ok:
		checkBeginError(t, c, api.ErrLoop)
	default:
		checkBegin(t, c, now, want, taken...)
	}
	return begin
}

// allCharts calls f with all shapes of n states, each with all transitions that there may be, as Autos or not.
func allCharts(n int, f func(c chart.Chart)) {
	var next func(c chart.Chart)
	next = func(c chart.Chart) {
		at := len(c.Names)
		if at == n {
			if shape.Valid(c.Shape) {
				f(c)
			}
			return
		}
		for kind := api.Plain; kind <= api.Deep; kind++ {
			for parent := -1; parent < at; parent++ {
				next(chart.Chart{
					Names: append(c.Names[:at:at], "s"+strconv.Itoa(at)),
					Shape: shape.Shape{Kinds: append(c.Shape.Kinds[:at:at], kind), Parents: append(c.Shape.Parents[:at:at], parent)},
				})
			}
		}
	}
	next(chart.Chart{})
}

// Documents in all that they may come to be in, of all charts of few states that have a transition from each to each.
func TestAllSmallCharts(t *testing.T) {
	w := walker{random: rand.New(rand.NewSource(1))}
	for n := 1; n <= 4; n++ {
		charts := 0
		allCharts(n, func(c chart.Chart) {
			if t.Failed() {
				return
			}
			charts++
			for from := range n {
				for to := range n {
					if c.Shape.Kinds[from] <= api.All {
						c.Trans = append(c.Trans, chart.Trans{Kind: api.On, Event: "e" + strconv.Itoa(to%2), From: from, To: to})
					}
				}
			}
			w.checkEverywhere(t, spread(c))
		})
		if charts < 1<<n {
			t.Fatalf("of %d states %d charts", n, charts)
		}
	}
	if w.moves < 5000 || w.returns < 200 || w.mixed < 100 {
		t.Errorf("too little is asked: %+v", w)
	}
}

// checkEverywhere checks all that a document of a chart may come to be in, with times that tell each step apart.
func (w *walker) checkEverywhere(t *testing.T, c chart.Chart) {
	t.Helper()
	type key struct {
		set  uint32
		past [4]uint32
	}
	seen := map[key]bool{}
	for open := []Config{w.checkBeginOf(t, c, 1)}; len(open) > 0 && !t.Failed(); {
		x := open[0]
		open = open[1:]
		k := key{set: x.Set}
		copy(k.past[:], x.Past)
		if seen[k] {
			continue
		}
		seen[k] = true
		now := slices.Max(x.Since) + 1
		w.checkAll(t, c, x, now)
		for trans, one := range c.Trans {
			if x.Set>>one.From&1 == 1 {
				open = append(open, slowTake(c, x, trans, now))
			}
		}
	}
}

// All charts of few states with each one and each two Autos, and some three.
func TestAllSmallRuns(t *testing.T) {
	w := walker{random: rand.New(rand.NewSource(2))}
	for n := 1; n <= 3; n++ {
		allCharts(n, func(c chart.Chart) {
			var autos []chart.Trans
			for i := range n * n {
				if c.Shape.Kinds[i/n] <= api.All {
					autos = append(autos, chart.Trans{Kind: api.Auto, From: i / n, To: i % n})
				}
			}
			some := func(l ...chart.Trans) {
				if !t.Failed() {
					c.Trans = l
					w.checkAll(t, spread(c), w.checkBeginOf(t, c, 1), 2)
				}
			}
			for _, a := range autos {
				some(a)
				for _, b := range autos {
					some(a, b)
					some(a, b, autos[w.random.Intn(len(autos))])
				}
			}
		})
	}
	if w.runs < 50 || w.loops < 1000 {
		t.Errorf("too little is asked: %+v", w)
	}
}

// someChart returns a valid chart, most often with few Autos, so that a Run ends.
func someChart(random *rand.Rand) chart.Chart {
	for {
		n := 1 + random.Intn(api.MaxStates)
		var c chart.Chart
		for i := range n {
			kind, parent := api.Plain+random.Intn(5)/4, random.Intn(i+1)-1
			if random.Intn(5) == 0 {
				kind = api.Past + random.Intn(2)
			}
			// Where one may not stand, it stands in another one.
			for parent >= 0 && (c.Shape.Kinds[parent] > api.All || kind > api.All && c.Shape.Kinds[parent] == api.All) {
				parent--
			}
			if parent < 0 && kind > api.All {
				kind -= 2
			}
			c.Names = append(c.Names, "s"+strconv.Itoa(i))
			c.Shape.Kinds, c.Shape.Parents = append(c.Shape.Kinds, kind), append(c.Shape.Parents, parent)
		}
		for range random.Intn(api.MaxTrans - 10) {
			c.Trans = append(c.Trans, someTrans(random, n))
		}
		for range random.Intn(12) {
			c.Trans = slices.Insert(c.Trans, random.Intn(len(c.Trans)+1), someAuto(random, c.Shape.Parents))
		}
		c.Trans = slices.DeleteFunc(c.Trans, func(x chart.Trans) bool { return c.Shape.Kinds[x.From] > api.All })
		if chart.Valid(c) {
			return spread(c)
		}
	}
}

func someTrans(random *rand.Rand, states int) chart.Trans {
	x := chart.Trans{From: random.Intn(states), To: random.Intn(states)}
	if random.Intn(4) == 0 {
		x.Kind, x.Time = api.After, 1+random.Intn(9)
	} else {
		x.Kind, x.Event = api.On, "e"+strconv.Itoa(random.Intn(2))
	}
	return x
}

// someAuto returns an Auto that most often leads from a leaf to a leaf soon behind it: many of these come to an end.
func someAuto(random *rand.Rand, parents []int) chart.Trans {
	n := len(parents)
	tries := 200
	if random.Intn(100) == 0 {
		tries = 0
	}
	for {
		x := chart.Trans{Kind: api.Auto, From: random.Intn(n), To: random.Intn(n)}
		leaves := !slices.Contains(parents, x.From) && !slices.Contains(parents, x.To)
		if tries--; tries < 0 || leaves && x.From < x.To && x.To < x.From+6 {
			return x
		}
	}
}

func TestSomeCharts(t *testing.T) {
	w := walker{random: rand.New(rand.NewSource(3))}
	for range 400 {
		c := someChart(w.random)
		x := w.checkBeginOf(t, c, 1)
		for now := range 12 {
			x = w.checkAll(t, c, x, 2+now)
		}
		if t.Failed() {
			return
		}
	}
	if w.moves < 30000 || w.returns < 200 || w.mixed < 3000 {
		t.Errorf("too little is asked: %+v", w)
	}
}

// anywhere puts a document anywhere within a node.
func (n *node) anywhere(random *rand.Rand) {
	var l []*node
	for _, kid := range n.kids {
		if kid.kind <= api.All {
			l = append(l, kid)
		}
	}
	if len(l) > 0 && n.kind == api.Plain {
		one := random.Intn(len(l))
		l = l[one : one+1]
	}
	for _, kid := range l {
		kid.stand(random.Intn(100))
		kid.anywhere(random)
	}
}

// somewhere returns where a document of a chart may stand, with something remembered.
func somewhere(random *rand.Rand, c chart.Chart) Config {
	n := len(c.Shape.Kinds)
	x := Config{Past: make([]uint32, n), Since: make([]int, n)}
	for range 3 {
		d := plant(c, Config{Past: x.Past, Since: make([]int, n)})
		d.top.anywhere(random)
		x = d.config()
		d.top.leave()
		if random.Intn(2) == 0 {
			x.Past = d.config().Past
		}
	}
	return x
}

// Documents of charts that have Autos alone, some that come to an end and some that don't, anywhere in them.
func TestSomeRuns(t *testing.T) {
	w := walker{random: rand.New(rand.NewSource(4))}
	for range 2000 {
		c := someChart(w.random)
		c.Trans = nil
		for range 2 + w.random.Intn(api.MaxTrans-1) {
			c.Trans = append(c.Trans, someAuto(w.random, c.Shape.Parents))
		}
		c.Trans = slices.DeleteFunc(c.Trans, func(x chart.Trans) bool { return c.Shape.Kinds[x.From] > api.All })
		c = spread(c)
		w.checkBeginOf(t, c, 200)
		for range 5 {
			w.checkRunOf(t, c, somewhere(w.random, c), 200)
		}
		if t.Failed() {
			return
		}
	}
	if w.runs < 1000 || w.loops < 1000 || w.longs < 30 {
		t.Errorf("too little is asked: %+v", w)
	}
}

// What is no chart, or no Config of it, ends no call.
func TestOddArguments(t *testing.T) {
	odd := []int{math.MinInt, -33, -2, -1, 0, 1, 2, 3, 4, 5, 31, 32, 64, math.MaxInt}
	for _, a := range odd {
		for _, b := range odd {
			for _, parents := range [][]int{nil, {-1}, {-1, 0}, {1, 0}, {-1, -1, -1, -1}, {b, a}} {
				c := chart.Chart{Shape: shape.Shape{Kinds: []int{1, 1 + a&3}, Parents: parents}, Trans: []chart.Trans{{From: a, To: b, Kind: api.Auto}, {From: 0, To: b, Kind: api.Auto}, {From: 0, To: 0, Kind: a}}}
				for _, x := range []Config{{}, {Set: math.MaxUint32}, {Set: 1, Past: []uint32{9}, Since: []int{9}}, {Set: 2, Past: make([]uint32, 40), Since: make([]int, 40)}} {
					Enabled(c, x, b, "")
					Take(c, x, 0, b)
					Take(c, x, 1, b)
					_, _, err := Run(c, x, b)
					if err != nil && !errors.Is(err, api.ErrLoop) {
						t.Errorf("Run(%+v, %+v) tells %v", c, x, err)
					}
					if _, _, err := Begin(c, b); !errors.Is(err, api.ErrArg) {
						t.Errorf("Begin(%+v) tells %v", c, err)
					}
				}
			}
		}
	}
}

// Of a Config that is none: what is entered is there since now, what is missing counts as 0, what is beyond the lists is not read.
func TestOddConfigs(t *testing.T) {
	c := of("p p p0 p0 h0", "2>3 go:1>4 go:0>1")
	x := at(c, "0@1 2@2 0:3")
	x.Since[1], x.Since[3] = 5, 6
	want := at(c, "0@1 3@9 0:3")
	want.Since[1] = 5
	checkTake(t, c, x, 0, 9, want)
	checkRun(t, c, x, 9, want, 0)
	x = at(c, "0@1 3@2 0:3")
	x.Past, x.Since = x.Past[:0], x.Since[:1]
	x.Since[:5][2] = 8
	checkTake(t, c, x, 2, 9, at(c, "1@9 0:3"))
	x = at(c, "1@3 0:3")
	x.Past, x.Since = x.Past[:0], nil
	checkTake(t, c, x, 1, 9, at(c, "0@9 2@9"))
	c.Trans = c.Trans[:0]
	checkRun(t, c, x, 9, at(c, "1@0"))
	// A transition leads from no state beyond those that there are, whatever is in the set.
	for _, from := range []int{5, 23, 31, 32, 33, 64, -1, math.MaxInt, math.MinInt} {
		c.Trans = []chart.Trans{{Kind: api.Auto, From: from}}
		checkEnabled(t, c, Config{Set: math.MaxUint32}, api.Auto, "")
		checkTakeError(t, c, Config{Set: math.MaxUint32}, 0, api.ErrState)
	}
}

// FuzzSteps goes ways through charts that bytes tell.
func FuzzSteps(f *testing.F) {
	for _, seed := range []int64{1, 2, 3, 99} {
		f.Add(seed, int64(7), 5)
	}
	f.Add(int64(0), int64(-1), -5)
	f.Fuzz(func(t *testing.T, seed, ways int64, now int) {
		c := someChart(rand.New(rand.NewSource(seed)))
		w := walker{random: rand.New(rand.NewSource(ways))}
		x := w.checkBeginOf(t, c, now)
		for range 10 {
			now++
			x = w.checkAll(t, c, x, now)
		}
	})
}
