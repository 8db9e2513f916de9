package enter

import (
	"math/rand"
	"slices"
	"testing"

	"imprimatur/api"
	"imprimatur/shape"
)

// The chapter once more, in another way: from the outside in, with a list of what is still to be entered, and with what documents were in told by a history.

func slowAncestors(s shape.Shape, at int) []int {
	if s.Parents[at] == -1 {
		return nil
	}
	return append(slowAncestors(s, s.Parents[at]), s.Parents[at])
}

func slowUnder(s shape.Shape, at, top int) bool {
	return top == -1 || slices.Contains(slowAncestors(s, at), top)
}

func slowKids(s shape.Shape, at int) (l []int) {
	for kid, p := range s.Parents {
		if p == at {
			l = append(l, kid)
		}
	}
	return l
}

func slowFirst(s shape.Shape, at int) []int {
	for kid, p := range s.Parents {
		if p == at && s.Kinds[kid] <= api.All {
			return []int{kid}
		}
	}
	return nil
}

func slowLeave(s shape.Shape, set uint32, domain int) (l []int) {
	for at := 31; at >= 0; at-- {
		if set&(1<<at) != 0 && slowUnder(s, at, domain) {
			l = append(l, at)
		}
	}
	return l
}

// slowComplete enters the first of those that are still to be entered, until there are none.
func slowComplete(s shape.Shape, at int, past []uint32) (l []int) {
	for open := []int{at}; len(open) > 0; {
		at, open = open[0], open[1:]
		var was []int
		if p := s.Parents[at]; p >= 0 && p < len(past) {
			for i := range s.Kinds {
				if past[p]&(1<<i) != 0 && slowUnder(s, i, p) {
					was = append(was, i)
				}
			}
		}
		switch kind := s.Kinds[at]; {
		case kind == api.Plain:
			l = append(l, at)
			open = slices.Concat(slowFirst(s, at), open)
		case kind == api.All:
			l = append(l, at)
			open = slices.Concat(slowKids(s, at), open)
		case len(was) == 0:
			open = slices.Concat(slowFirst(s, s.Parents[at]), open)
		case kind == api.Deep:
			l = append(l, was...)
		default:
			for _, kid := range was {
				if s.Parents[kid] == s.Parents[at] {
					open = slices.Concat([]int{kid}, open)
				}
			}
		}
	}
	return l
}

func slowEnter(s shape.Shape, domain, to int, past []uint32) []int {
	var way []int
	for _, at := range slowAncestors(s, to) {
		if slowUnder(s, at, domain) {
			way = append(way, at)
		}
	}
	return slowWay(s, append(way, to), past)
}

func slowWay(s shape.Shape, way []int, past []uint32) []int {
	if len(way) == 1 {
		return slowComplete(s, way[0], past)
	}
	l := append([]int{way[0]}, slowWay(s, way[1:], past)...)
	for _, kid := range slowKids(s, way[0]) {
		if s.Kinds[way[0]] == api.All && kid != way[1] {
			l = append(l, slowComplete(s, kid, past)...)
		}
	}
	return l
}

// document is where a document is, what is remembered of it, and what it was in each of the states when that was left last.
type document struct {
	set     uint32
	past    []uint32
	history [api.MaxStates]uint32
}

func begin(s shape.Shape) document {
	return document{set: states(Start(s)...)}
}

// moved returns a document behind a transition, and holds all calls against the second reading, and against what must be so whatever the reading is.
func moved(t *testing.T, s shape.Shape, d document, from, to int) document {
	t.Helper()
	domain := shape.Domain(s, from, to)
	left := slowLeave(s, d.set, domain)
	checkLeave(t, s, d.set, domain, left...)
	told := map[int]uint32{}
	for _, p := range left {
		d.history[p] = states(slowLeave(s, d.set, p)...)
		for _, kid := range slowKids(s, p) {
			if s.Kinds[kid] == api.Past || s.Kinds[kid] == api.Deep {
				told[p] = d.history[p]
			}
		}
	}
	checkRemember(t, s, d.set, left, d.past, told)
	d.past = Remember(s, d.set, left, d.past)
	entered := slowEnter(s, domain, to, d.past)
	checkEnter(t, s, domain, to, d.past, entered...)
	d.set &^= states(left...)
	checkOrder(t, s, d.set, domain, to, entered)
	d.set |= states(entered...)
	if !shape.Proper(s, d.set) {
		t.Fatalf("from %d to %d of %s a document comes to be in %b", from, to, text(s), d.set)
	}
	checkPast(t, s, d)
	return d
}

// checkOrder asks whether each state is entered once, under the domain, where a document wasn't in it, and behind its parent.
func checkOrder(t *testing.T, s shape.Shape, set uint32, domain, to int, entered []int) {
	t.Helper()
	for _, at := range entered {
		p := s.Parents[at]
		if set&(1<<at) != 0 || !slowUnder(s, at, domain) || p >= 0 && set&(1<<p) == 0 {
			t.Errorf("Enter(%s, %d, %d) is %v, where %d may not be entered", text(s), domain, to, entered, at)
		}
		set |= 1 << at
	}
	if s.Kinds[to] <= api.All && !slices.Contains(entered, to) {
		t.Errorf("Enter(%s, %d, %d) is %v, without the state itself", text(s), domain, to, entered)
	}
}

// checkPast asks whether what is remembered is what the document was in, for the states of which it is asked.
func checkPast(t *testing.T, s shape.Shape, d document) {
	t.Helper()
	for p, set := range d.past {
		want := uint32(0)
		for _, kid := range slowKids(s, p) {
			if s.Kinds[kid] == api.Past || s.Kinds[kid] == api.Deep {
				want = d.history[p]
			}
		}
		if set != want {
			t.Errorf("of %d in %s is remembered %b, not %b", p, text(s), set, want)
		}
	}
}

// All shapes of few states, with all that a document may come to be in, and all ways from there.
func TestAllSmallShapes(t *testing.T) {
	for n := 1; n <= 5; n++ {
		shapes, moves := 0, 0
		var next func(s shape.Shape)
		next = func(s shape.Shape) {
			at := len(s.Kinds)
			if at == n {
				if shape.Valid(s) {
					shapes++
					moves += checkAllMoves(t, s)
				}
				return
			}
			for kind := api.Plain; kind <= api.Deep; kind++ {
				for parent := -1; parent < at && !t.Failed(); parent++ {
					next(shape.Shape{Kinds: append(s.Kinds[:at:at], kind), Parents: append(s.Parents[:at:at], parent)})
				}
			}
		}
		next(shape.Shape{})
		if t.Failed() || shapes < 1<<n || moves < n*shapes {
			t.Fatalf("of %d states %d shapes and %d moves", n, shapes, moves)
		}
	}
}

// checkAllMoves checks all ways from all that a document may come to be in, and returns their number.
func checkAllMoves(t *testing.T, s shape.Shape) (moves int) {
	t.Helper()
	type key struct {
		set  uint32
		past [api.MaxStates]uint32
	}
	checkStart(t, s, slowComplete(s, slowFirst(s, -1)[0], nil)...)
	seen := map[key]bool{}
	for open := []document{begin(s)}; len(open) > 0 && !t.Failed(); {
		d := open[0]
		open = open[1:]
		k := key{set: d.set}
		copy(k.past[:], d.past)
		if seen[k] {
			continue
		}
		seen[k] = true
		for from := range s.Kinds {
			for to := range s.Kinds {
				if d.set&(1<<from) != 0 {
					open = append(open, moved(t, s, d, from, to))
					moves++
				}
			}
		}
	}
	return moves
}

// someShape returns a valid shape, with memory beyond its lists.
func someShape(random *rand.Rand) shape.Shape {
	for {
		n := 1 + random.Intn(api.MaxStates)
		kinds, parents := make([]int, n, n+3), make([]int, n, n+3)
		near := 1 + random.Intn(n)
		for i := range n {
			kinds[i], parents[i] = 1+random.Intn(2), max(-1, i-1-random.Intn(near))
			for parents[i] >= 0 && kinds[parents[i]] > api.All {
				parents[i]--
			}
			if p := parents[i]; p >= 0 && kinds[p] == api.Plain && random.Intn(4) == 0 {
				kinds[i] = api.Past + random.Intn(2)
			}
		}
		if s := (shape.Shape{Kinds: kinds, Parents: parents}); shape.Valid(s) {
			return s
		}
	}
}

func TestSomeShapes(t *testing.T) {
	random := rand.New(rand.NewSource(7))
	returns, many := 0, 0
	for range 500 {
		s := someShape(random)
		checkStart(t, s, slowComplete(s, slowFirst(s, -1)[0], nil)...)
		d := begin(s)
		for range 60 {
			l := slowLeave(s, d.set, -1)
			from, to := l[random.Intn(len(l))], someState(random, s)
			d = moved(t, s, d, from, to)
			domain := shape.Domain(s, from, to)
			entered := slowEnter(s, domain, to, d.past)
			if !slices.Equal(entered, slowEnter(s, domain, to, nil)) {
				returns++
			}
			if len(entered) > 4 {
				many++
			}
			checkAnyDomain(t, random, s, d)
		}
		if t.Failed() {
			return
		}
	}
	if returns < 500 || many < 3000 {
		t.Errorf("the ways are too simple: %d, %d", returns, many)
	}
}

// someState returns a state, a Past or a Deep more often than they come.
func someState(random *rand.Rand, s shape.Shape) int {
	for range 6 {
		if at := random.Intn(len(s.Kinds)); s.Kinds[at] > api.All {
			return at
		}
	}
	return random.Intn(len(s.Kinds))
}

// checkAnyDomain holds Enter for the domain of any two states against the second reading, with all or some of what is remembered.
func checkAnyDomain(t *testing.T, random *rand.Rand, s shape.Shape, d document) {
	t.Helper()
	n := len(s.Kinds)
	from, to := random.Intn(n), someState(random, s)
	domain := shape.Domain(s, from, to)
	past := d.past[:random.Intn(len(d.past)+1)]
	checkEnter(t, s, domain, to, past, slowEnter(s, domain, to, past)...)
	checkLeave(t, s, d.set, from, slowLeave(s, d.set, from)...)
}
