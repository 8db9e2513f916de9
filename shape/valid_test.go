package shape

import (
	"math"
	"slices"
	"testing"

	"imprimatur/api"
)

func checkValid(t *testing.T, want bool, s Shape) {
	t.Helper()
	defer kept(t, s)()
	if valid := Valid(s); valid != want {
		t.Errorf("Valid(%v) is %t", s, valid)
	}
}

// changed returns a copy of a shape in which a state has another kind and parent.
func changed(s Shape, at, kind, parent int) Shape {
	s = Shape{slices.Clone(s.Kinds), slices.Clone(s.Parents)}
	s.Kinds[at], s.Parents[at] = kind, parent
	return s
}

func TestValid(t *testing.T) {
	for _, text := range []string{
		"p", "a", "p p", "a a", "a p", "p p p a",
		"p p0", "a p0", "p a0", "a a0", "p p p0 p1", "p p p1 p0", "a p0 p0 a0",
		"p p0 h0", "p h0 p0", "p d0 a0", "p h0 d0 h0 d0 p0", "p a0 h0",
		"p a0 p1 p2 h2", "a p0 p1 d1", "p p0 p1 h0", "p p0 h0 p1 h1 d1",
		review,
	} {
		checkValid(t, true, of(text))
	}
}

func TestValidNumberOfStates(t *testing.T) {
	checkValid(t, false, Shape{})
	checkValid(t, false, of(""))
	checkValid(t, false, Shape{[]int{}, []int{}})
	for n := range api.MaxStates + 3 {
		for _, kind := range []int{api.Plain, api.All} {
			checkValid(t, n >= 1 && n <= api.MaxStates, flat(n, kind))
			checkValid(t, n >= 1 && n <= api.MaxStates, chained(n, kind))
		}
	}
	checkValid(t, false, flat(1<<20, api.Plain))
	checkValid(t, false, chained(1<<20, api.All))
}

func TestValidLengths(t *testing.T) {
	checkValid(t, false, Shape{Kinds: []int{api.Plain}})
	checkValid(t, false, Shape{Parents: []int{-1}})
	for _, text := range []string{"p", "p p0", "a p0 p0", "p p0 h0", review} {
		s := of(text)
		n := len(s.Kinds)
		checkValid(t, true, s)
		checkValid(t, false, Shape{s.Kinds[:n+1], s.Parents})
		checkValid(t, false, Shape{s.Kinds, s.Parents[:n+1]})
		checkValid(t, false, Shape{s.Kinds[:n-1], s.Parents})
		checkValid(t, false, Shape{s.Kinds, s.Parents[:n-1]})
		checkValid(t, false, Shape{s.Kinds, nil})
		checkValid(t, false, Shape{nil, s.Parents})
	}
	most := flat(api.MaxStates+1, api.Plain)
	checkValid(t, false, Shape{most.Kinds[:api.MaxStates], most.Parents})
	checkValid(t, false, Shape{most.Kinds, most.Parents[:api.MaxStates]})
}

func TestValidKinds(t *testing.T) {
	s := of("p p0 p0 p0")
	for at := range 4 {
		for kind := api.Plain; kind <= api.Deep; kind++ {
			checkValid(t, at > 0 || kind == api.Plain || kind == api.All, changed(s, at, kind, s.Parents[at]))
		}
		for _, kind := range []int{math.MinInt, -1, 0, 5, 6, 257, math.MaxInt} {
			checkValid(t, false, changed(s, at, kind, s.Parents[at]))
		}
	}
	checkValid(t, false, of("h"))
	checkValid(t, false, of("d"))
	checkValid(t, false, Shape{[]int{0}, []int{-1}})
	checkValid(t, false, Shape{[]int{5}, []int{-1}})
}

func TestValidParents(t *testing.T) {
	s := of("p p0 a0 p2 p2")
	for at := range 5 {
		for parent := -1; parent < at; parent++ {
			checkValid(t, true, changed(s, at, api.Plain, parent))
		}
		for _, parent := range []int{math.MinInt, math.MinInt32, -3, -2, at, at + 1, 4, 5, 6, math.MaxInt32, math.MaxInt} {
			if parent < -1 || parent >= at {
				checkValid(t, false, changed(s, at, api.Plain, parent))
				checkValid(t, false, changed(s, at, api.All, parent))
				checkValid(t, false, changed(s, at, api.Past, parent))
				checkValid(t, false, changed(s, at, api.Deep, parent))
			}
		}
	}
	// Two that are in each other, and three in a ring.
	checkValid(t, false, of("p1 p0"))
	checkValid(t, false, of("p p2 p3 p1"))
	checkValid(t, false, of("p0"))
}

// Nothing stands in a Past or a Deep.
func TestValidParentPastOrDeep(t *testing.T) {
	for _, parent := range []string{"h0", "d0"} {
		for _, kid := range []string{"p2", "a2", "h2", "d2"} {
			checkValid(t, false, of("p p0 "+parent+" "+kid))
		}
		checkValid(t, false, of("p p0 "+parent+" p2 h2"))
		checkValid(t, true, of("p p0 "+parent+" p1 h1"))
	}
}

// A Past or a Deep stands in a Plain state alone.
func TestValidPastAndDeep(t *testing.T) {
	for _, kid := range []string{"h", "d"} {
		checkValid(t, true, of("p p0 "+kid+"0"))
		checkValid(t, false, of("a p0 "+kid+"0"))
		checkValid(t, false, of("a p0 p0 "+kid+"0"))
		checkValid(t, true, of("a p0 p1 "+kid+"1"))
		checkValid(t, false, of("p a0 p1 "+kid+"1"))
		checkValid(t, true, of("p a0 p1 "+kid+"0"))
		checkValid(t, false, of("p "+kid))
		checkValid(t, false, of("p p0 "+kid))
		checkValid(t, false, of(kid+" p"))
		checkValid(t, false, of(kid+" p p1"))
	}
}

// Not all children are Past or Deep.
func TestValidChildren(t *testing.T) {
	for _, c := range []struct{ broken, kid string }{
		{"p h0", "0"},
		{"p d0", "0"},
		{"p d0 d0 h0 d0", "0"},
		{"p p h1", "1"},
		{"p p d0", "0"},
		{"p p0 h1", "1"},
		{"p p0 h1 p0 h0", "1"},
		{"p p0 p1 h2 h0", "2"},
		{"a p0 p0 d2", "2"},
	} {
		checkValid(t, false, of(c.broken))
		checkValid(t, true, of(c.broken+" p"+c.kid))
		checkValid(t, true, of(c.broken+" a"+c.kid))
		checkValid(t, false, of(c.broken+" d"+c.kid))
		checkValid(t, false, of(c.broken+" p"))
	}
	for _, text := range []string{"h", "d", "h d", "d h d"} {
		checkValid(t, false, of(text))
	}
}

// What is no shape ends no call, though the others are asked of valid shapes alone.
func TestNoShape(t *testing.T) {
	odd := []int{math.MinInt, -2, -1, 0, 1, 2, 3, 4, 5, math.MaxInt}
	for _, n := range [][2]int{{0, 0}, {0, 1}, {1, 0}, {1, 1}, {2, 1}, {1, 2}, {2, 2}, {3, 2}, {2, 3}} {
		each(odd, n[0], func(kinds []int) {
			each(odd, n[1], func(parents []int) {
				s := Shape{kinds, parents}
				if len(kinds) != len(parents) {
					checkValid(t, false, s)
				}
				askAll(s)
			})
		})
	}
	for n := range 70 {
		askAll(Shape{slices.Repeat([]int{api.Plain}, n), slices.Repeat([]int{n - 1}, n)})
		askAll(chained(n, api.All))
	}
}

// each calls f with all lists of n of some numbers.
func each(of []int, n int, f func(l []int)) {
	l := make([]int, n)
	var next func(at int)
	next = func(at int) {
		if at == n {
			f(l)
			return
		}
		for _, l[at] = range of {
			next(at + 1)
		}
	}
	next(0)
}

func askAll(s Shape) {
	Valid(s)
	for at := -2; at < len(s.Kinds)+2; at++ {
		Kids(s, at)
		Level(s, at)
		Initial(s, at)
		for to := -2; to < len(s.Parents)+2; to++ {
			Under(s, at, to)
			Domain(s, at, to)
		}
	}
	for _, set := range []uint32{0, 1, 2, 3, 5, 7, math.MaxUint32} {
		Proper(s, set)
	}
}
