package enter

import (
	"fmt"
	"math"
	"slices"
	"strconv"
	"strings"
	"testing"

	"imprimatur/api"
	"imprimatur/shape"
)

// of returns the shape of a text, a word for each state: p, a, h or d for Plain, All, Past or Deep, and the parent's index (none: the top).
// Beyond the lengths of the lists is memory that would change the answers if it were read.
func of(text string) shape.Shape {
	var s shape.Shape
	for _, word := range strings.Fields(text) {
		parent := -1
		if len(word) > 1 {
			parent, _ = strconv.Atoi(word[1:])
		}
		s.Kinds = append(s.Kinds, 1+strings.IndexByte("pahd", word[0]))
		s.Parents = append(s.Parents, parent)
	}
	n := len(s.Kinds)
	for parent := -1; parent < n; parent++ {
		s.Kinds, s.Parents = append(s.Kinds, api.Plain), append(s.Parents, parent)
	}
	return shape.Shape{Kinds: s.Kinds[:n], Parents: s.Parents[:n]}
}

// Regions: an All in a region of another (4 in 2 of 1), and one that is itself a region (13 of 1).
const regions = "p a p1 p2 a2 p4 p5 p5 p4 p1 p9 p9 h9 a1 p13 p13"

//               0 1 2  3  4  5  6  7  8  9  10 11 12 13 14  15

// History: 1 has a leaf, an All and a Plain with states besides a Past and a Deep, and states of several depths under it.
const history = "p p p1 a1 h1 d1 p3 p6 p6 p3 p8 p8 p9 p9 p1 p14 p14"

//               0 1 2  3  4  5  6  7  8  9  10 11 12 13 14 15  16

// none has indexes that denote no state of any shape, beside -1.
var none = []int{math.MinInt, math.MinInt32, -33, -25, -3, -2, api.MaxStates, 25, 31, 32, 63, 64, math.MaxInt32, math.MaxUint32, math.MaxInt}

// states returns the set of some states.
func states(at ...int) (set uint32) {
	for _, i := range at {
		set |= 1 << i
	}
	return set
}

// tells returns a past of n elements that tells a set of a state, and nothing else.
// Beyond its length is memory that would change the answers if it were read.
func tells(n, at int, set uint32) []uint32 {
	l := make([]uint32, n+40)
	for i := n; i < len(l); i++ {
		l[i] = math.MaxUint32
	}
	if at < n {
		l[at] = set
	}
	return l[:n]
}

// kept asks, when it is called behind a call, whether a list is as it was, the memory beyond its length included (R4).
func kept[E comparable](t *testing.T, name string, l []E) func() {
	t.Helper()
	whole := l[:cap(l)]
	before := slices.Clone(whole)
	return func() {
		t.Helper()
		if !slices.Equal(whole, before) {
			t.Errorf("%s %v became %v", name, before, whole)
		}
	}
}

func keptShape(t *testing.T, s shape.Shape) func() {
	t.Helper()
	kinds, parents := kept(t, "Kinds", s.Kinds), kept(t, "Parents", s.Parents)
	return func() {
		t.Helper()
		kinds()
		parents()
	}
}

// checkAnswer holds what a call answers against a list, twice, and asks whether the answer is new memory each time (R4).
func checkAnswer[E comparable](t *testing.T, name func() string, want []E, call func() []E) {
	t.Helper()
	first := call()
	if !slices.Equal(first, want) {
		t.Errorf("%s is %v, not %v", name(), first, want)
		return
	}
	second := call()
	first = first[:cap(first)]
	clear(first)
	if !slices.Equal(second, want) || !slices.Equal(call(), want) {
		t.Errorf("%s shares memory: %v, not %v", name(), second, want)
	}
}

// named returns what tells of a call.
func named(call string, s shape.Shape, args ...any) func() string {
	return func() string {
		return fmt.Sprintf("%s(%s, %d)", call, text(s), args)
	}
}

// text returns the text of a shape, as of reads it.
func text(s shape.Shape) string {
	var l []string
	for i, kind := range s.Kinds {
		word := string("?pahd"[kind])
		if s.Parents[i] >= 0 {
			word += strconv.Itoa(s.Parents[i])
		}
		l = append(l, word)
	}
	return strings.Join(l, " ")
}

func checkLeave(t *testing.T, s shape.Shape, set uint32, domain int, want ...int) {
	t.Helper()
	defer keptShape(t, s)()
	checkAnswer(t, named("Leave", s, set, domain), want, func() []int {
		return Leave(s, set, domain)
	})
}

func checkEnter(t *testing.T, s shape.Shape, domain, to int, past []uint32, want ...int) {
	t.Helper()
	defer keptShape(t, s)()
	defer kept(t, "past", past)()
	checkAnswer(t, named("Enter", s, domain, to, past), want, func() []int {
		return Enter(s, domain, to, past)
	})
}

func checkStart(t *testing.T, s shape.Shape, want ...int) {
	t.Helper()
	defer keptShape(t, s)()
	checkAnswer(t, named("Start", s), want, func() []int {
		return Start(s)
	})
}

// checkRemember holds Remember against the sets that it is to tell of states; of all others it tells what past does.
func checkRemember(t *testing.T, s shape.Shape, set uint32, left []int, past []uint32, changed map[int]uint32) {
	t.Helper()
	defer keptShape(t, s)()
	defer kept(t, "left", left)()
	defer kept(t, "past", past)()
	want := make([]uint32, len(s.Kinds))
	for at := range want {
		if at < len(past) {
			want[at] = past[at]
		}
		if set, ok := changed[at]; ok {
			want[at] = set
		}
	}
	checkAnswer(t, named("Remember", s, set, left, past), want, func() []uint32 {
		return Remember(s, set, left, past)
	})
}

func TestExample(t *testing.T) {
	checkStart(t, shape.Shape{Kinds: []int{api.Plain}, Parents: []int{-1}}, 0)
}

// The first state of the top is a leaf, a Plain with states, an All.
func TestStart(t *testing.T) {
	checkStart(t, of("p"), 0)
	checkStart(t, of("a"), 0)
	checkStart(t, of("p a p1 p1"), 0)
	checkStart(t, of(regions), 0)
	checkStart(t, of("p p p0 p0"), 0, 2)
	checkStart(t, of("p p p0 p1 p2 p2"), 0, 2, 4)
	checkStart(t, of("p h0 d0 p0 p0"), 0, 3)
	checkStart(t, of("a p0 p0"), 0, 1, 2)
	checkStart(t, of("p a0 p0 p1 p1"), 0, 1, 3, 4)
	// All under a region is entered before the region behind it, which stands ahead of it in the shape.
	checkStart(t, of("a p0 p0 p2 p1 p1"), 0, 1, 4, 2, 3)
	checkStart(t, of("a p0 a0 p2 p1 d1 p2 h1 p1 a3 p6"), 0, 1, 4, 2, 3, 9, 6, 10)
	checkStart(t, of("a p0 p1 a0 a3 p4 p4 p3 p7 p7 p1 p0"), 0, 1, 2, 3, 4, 5, 6, 7, 8, 11)
}

func TestStartDeepest(t *testing.T) {
	var plain, all []string
	var want []int
	for at := range api.MaxStates {
		parent := strconv.Itoa(at - 1)
		if at == 0 {
			parent = ""
		}
		plain, all, want = append(plain, "p"+parent), append(all, "a"+parent), append(want, at)
	}
	checkStart(t, of(strings.Join(plain, " ")), want...)
	checkStart(t, of(strings.Join(all, " ")), want...)
	checkEnter(t, of(strings.Join(plain, " ")), -1, api.MaxStates-1, nil, want...)
	checkEnter(t, of(strings.Join(all, " ")), -1, api.MaxStates-1, nil, want...)
	slices.Reverse(want)
	checkLeave(t, of(strings.Join(all, " ")), 1<<api.MaxStates-1, -1, want...)
}

// What is left lies properly under the domain, and is told in descending order.
func TestLeave(t *testing.T) {
	s := of("p p p1 p1 p2 p2")
	checkLeave(t, s, states(0), -1, 0)
	checkLeave(t, s, states(1, 2, 5), -1, 5, 2, 1)
	checkLeave(t, s, states(1, 2, 5), 1, 5, 2)
	checkLeave(t, s, states(1, 2, 5), 2, 5)
	checkLeave(t, s, states(1, 3), 1, 3)
	checkLeave(t, of("p"), states(0), -1, 0)
	checkLeave(t, of("a"), states(0), -1, 0)
}

func TestLeaveRegions(t *testing.T) {
	s := of(regions)
	set := states(1, 2, 4, 5, 7, 8, 9, 11, 13, 14, 15)
	checkLeave(t, s, set, -1, 15, 14, 13, 11, 9, 8, 7, 5, 4, 2, 1)
	checkLeave(t, s, set, 1, 15, 14, 13, 11, 9, 8, 7, 5, 4, 2)
	checkLeave(t, s, set, 2, 8, 7, 5, 4)
	checkLeave(t, s, set, 4, 8, 7, 5)
	checkLeave(t, s, set, 5, 7)
	checkLeave(t, s, set, 9, 11)
	checkLeave(t, s, set, 13, 15, 14)
	checkLeave(t, s, states(1, 2, 3, 9, 10, 13, 14, 15), 2, 3)
	// The All of a region that the document isn't in.
	checkLeave(t, s, states(1, 2, 3, 9, 10, 13, 14, 15), 4)
	checkLeave(t, s, states(1, 2, 3, 9, 10, 13, 14, 15), 5)
}

// The order is that of the indexes, not that of the depths.
func TestLeaveOrder(t *testing.T) {
	s := of("a p0 p0 p1 p2 p1 p3 p4 p2")
	checkLeave(t, s, states(0, 1, 2, 3, 4, 6, 7), -1, 7, 6, 4, 3, 2, 1, 0)
	checkLeave(t, s, states(0, 1, 2, 3, 6, 8), 0, 8, 6, 3, 2, 1)
	checkLeave(t, s, states(0, 1, 2, 3, 6, 8), 1, 6, 3)
}

// Nothing of the set lies under the domain.
func TestLeaveNothing(t *testing.T) {
	s := of(regions)
	set := states(1, 2, 4, 5, 7, 8, 9, 11, 13, 14, 15)
	for _, domain := range append(none, -2, 0, 3, 6, 7, 8, 10, 11, 12, 14, 15, 16, 17) {
		checkLeave(t, s, set, domain)
	}
	for at := range 16 {
		checkLeave(t, s, states(0), at)
	}
	s = of(history)
	checkLeave(t, s, states(1, 2), 2)
	checkLeave(t, s, states(1, 2), 4)
	checkLeave(t, s, states(1, 2), 5)
	checkLeave(t, s, states(1, 2), 14)
	checkLeave(t, s, states(1, 2), 1, 2)
}

// To a state of the top, and to one in it, when all is left; to one in a domain, when its ancestors stay.
func TestEnterPlain(t *testing.T) {
	s := of("p p p1 p1 p3 p3 p5 p5")
	checkEnter(t, s, -1, 0, nil, 0)
	checkEnter(t, s, -1, 1, nil, 1, 2)
	checkEnter(t, s, -1, 2, nil, 1, 2)
	checkEnter(t, s, -1, 3, nil, 1, 3, 4)
	checkEnter(t, s, -1, 4, nil, 1, 3, 4)
	checkEnter(t, s, -1, 5, nil, 1, 3, 5, 6)
	checkEnter(t, s, -1, 7, nil, 1, 3, 5, 7)
	checkEnter(t, s, 1, 2, nil, 2)
	checkEnter(t, s, 1, 3, nil, 3, 4)
	checkEnter(t, s, 1, 7, nil, 3, 5, 7)
	checkEnter(t, s, 3, 7, nil, 5, 7)
	checkEnter(t, s, 3, 5, nil, 5, 6)
	checkEnter(t, s, 5, 7, nil, 7)
	checkEnter(t, s, 5, 6, nil, 6)
	checkEnter(t, of("p"), -1, 0, nil, 0)
	checkEnter(t, of("a"), -1, 0, nil, 0)
}

// The other children of an All come behind the one that leads to the state and all under that, in ascending order.
func TestEnterAll(t *testing.T) {
	s := of("p a p1 p1 p1 p2 p2 p3 p3 p4 p4")
	checkEnter(t, s, -1, 1, nil, 1, 2, 5, 3, 7, 4, 9)
	checkEnter(t, s, -1, 2, nil, 1, 2, 5, 3, 7, 4, 9)
	checkEnter(t, s, -1, 3, nil, 1, 3, 7, 2, 5, 4, 9)
	checkEnter(t, s, -1, 4, nil, 1, 4, 9, 2, 5, 3, 7)
	checkEnter(t, s, -1, 6, nil, 1, 2, 6, 3, 7, 4, 9)
	checkEnter(t, s, -1, 8, nil, 1, 3, 8, 2, 5, 4, 9)
	checkEnter(t, s, -1, 10, nil, 1, 4, 10, 2, 5, 3, 7)
	// Within a region the All is not entered again, nor are its other regions.
	checkEnter(t, s, 2, 6, nil, 6)
	checkEnter(t, s, 3, 7, nil, 7)
	checkEnter(t, of("p p0 a0 p2 p2"), 0, 2, nil, 2, 3, 4)
	checkEnter(t, of("p p0 a0 p2 p2"), 0, 4, nil, 2, 4, 3)
}

func TestEnterAllInAll(t *testing.T) {
	s := of(regions)
	checkEnter(t, s, -1, 1, nil, 1, 2, 3, 9, 10, 13, 14, 15)
	checkEnter(t, s, -1, 3, nil, 1, 2, 3, 9, 10, 13, 14, 15)
	checkEnter(t, s, -1, 4, nil, 1, 2, 4, 5, 6, 8, 9, 10, 13, 14, 15)
	checkEnter(t, s, -1, 6, nil, 1, 2, 4, 5, 6, 8, 9, 10, 13, 14, 15)
	checkEnter(t, s, -1, 7, nil, 1, 2, 4, 5, 7, 8, 9, 10, 13, 14, 15)
	checkEnter(t, s, -1, 8, nil, 1, 2, 4, 8, 5, 6, 9, 10, 13, 14, 15)
	checkEnter(t, s, -1, 11, nil, 1, 9, 11, 2, 3, 13, 14, 15)
	checkEnter(t, s, -1, 13, nil, 1, 13, 14, 15, 2, 3, 9, 10)
	// One right above the other.
	checkEnter(t, s, -1, 14, nil, 1, 13, 14, 15, 2, 3, 9, 10)
	checkEnter(t, s, -1, 15, nil, 1, 13, 15, 14, 2, 3, 9, 10)
	checkEnter(t, s, 2, 4, nil, 4, 5, 6, 8)
	checkEnter(t, s, 2, 7, nil, 4, 5, 7, 8)
	checkEnter(t, s, 2, 8, nil, 4, 8, 5, 6)
	checkEnter(t, s, 5, 7, nil, 7)
	// Three, each in a region of the one above it.
	s = of("a a0 a1 p0 p1 p2 p2 p6 p6 p0")
	checkEnter(t, s, -1, 8, nil, 0, 1, 2, 6, 8, 5, 4, 3, 9)
	checkEnter(t, s, -1, 4, nil, 0, 1, 4, 2, 5, 6, 7, 3, 9)
	checkEnter(t, s, -1, 3, nil, 0, 3, 1, 2, 5, 6, 7, 4, 9)
	checkEnter(t, s, 6, 8, nil, 8)
}

func TestEnterNoState(t *testing.T) {
	for _, text := range []string{"p", "p p0 h0 d0", regions, history} {
		s := of(text)
		n := len(s.Kinds)
		for _, to := range append(none, -1, n, n+1) {
			for _, domain := range append(none, -1, 0, n) {
				checkEnter(t, s, domain, to, nil)
				checkEnter(t, s, domain, to, tells(n, 0, 2))
			}
		}
	}
}
