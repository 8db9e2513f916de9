package shape

import (
	"math"
	"slices"
	"strconv"
	"strings"
	"testing"

	"imprimatur/api"
)

// of returns the shape of a text, a word for each state: p, a, h or d for Plain, All, Past or Deep, and the parent's index (none: the top).
// Beyond the lengths of the lists is memory that would change the answers if it were read.
func of(text string) Shape {
	var s Shape
	for _, word := range strings.Fields(text) {
		parent := -1
		if len(word) > 1 {
			parent, _ = strconv.Atoi(word[1:])
		}
		s.Kinds = append(s.Kinds, 1+strings.IndexByte("pahd", word[0]))
		s.Parents = append(s.Parents, parent)
	}
	n := len(s.Kinds)
	for parent := -1; parent < n; parent++ {
		s.Kinds, s.Parents = append(s.Kinds, api.Plain), append(s.Parents, parent)
	}
	return Shape{s.Kinds[:n], s.Parents[:n]}
}

// A document that is drafted, or reviewed (it waits, or it is checked in two ways at once), or filed.
const review = "p p p1 a1 p3 p4 p4 p3 h7 p7 p7 h1 d1 a"

//              0 1 2  3  4  5  6  7  8  9  10 11 12 13

// above has the ancestors of each state of review, the outermost first.
var above = [14][]int{
	2: {1}, 3: {1}, 11: {1}, 12: {1},
	4: {1, 3}, 7: {1, 3},
	5: {1, 3, 4}, 6: {1, 3, 4},
	8: {1, 3, 7}, 9: {1, 3, 7}, 10: {1, 3, 7},
}

// none has indexes that denote no state of any shape, beside -1.
var none = []int{math.MinInt, math.MinInt32, -33, -25, -3, -2, api.MaxStates, 25, 31, 32, 63, 64, math.MaxInt32, math.MaxUint32, math.MaxInt}

// kept asks, when it is called behind a call, whether the lists are as they were, the memory beyond their lengths included (R4).
func kept(t *testing.T, s Shape) func() {
	t.Helper()
	kinds, parents := s.Kinds[:cap(s.Kinds)], s.Parents[:cap(s.Parents)]
	kindsBefore, parentsBefore := slices.Clone(kinds), slices.Clone(parents)
	return func() {
		t.Helper()
		if !slices.Equal(kinds, kindsBefore) || !slices.Equal(parents, parentsBefore) {
			t.Errorf("the lists of %v became %v, %v", s, kinds, parents)
		}
	}
}

func checkKids(t *testing.T, s Shape, at int, want ...int) {
	t.Helper()
	defer kept(t, s)()
	if l := Kids(s, at); !slices.Equal(l, want) {
		t.Errorf("Kids(%v, %d) is %v, not %v", s, at, l, want)
	}
}

func checkUnder(t *testing.T, s Shape, at, top int, want bool) {
	t.Helper()
	defer kept(t, s)()
	if under := Under(s, at, top); under != want {
		t.Errorf("Under(%v, %d, %d) is %t", s, at, top, under)
	}
}

func checkLevel(t *testing.T, s Shape, at, want int) {
	t.Helper()
	defer kept(t, s)()
	if level := Level(s, at); level != want {
		t.Errorf("Level(%v, %d) is %d, not %d", s, at, level, want)
	}
}

func checkInitial(t *testing.T, s Shape, at, want int) {
	t.Helper()
	defer kept(t, s)()
	if initial := Initial(s, at); initial != want {
		t.Errorf("Initial(%v, %d) is %d, not %d", s, at, initial, want)
	}
}

// checkDomain holds Domain against what it is to be; which state is left and which is gone to makes no difference.
func checkDomain(t *testing.T, s Shape, from, to, want int) {
	t.Helper()
	defer kept(t, s)()
	if at := Domain(s, from, to); at != want {
		t.Errorf("Domain(%v, %d, %d) is %d, not %d", s, from, to, at, want)
	}
	if at := Domain(s, to, from); at != want {
		t.Errorf("Domain(%v, %d, %d) is %d, not %d", s, to, from, at, want)
	}
}

func TestKids(t *testing.T) {
	s := of(review)
	kids := map[int][]int{-1: {0, 1, 13}, 1: {2, 3, 11, 12}, 3: {4, 7}, 4: {5, 6}, 7: {8, 9, 10}}
	for at := -1; at < 14; at++ {
		checkKids(t, s, at, kids[at]...)
	}
	for _, at := range append(none, 14, 15) {
		checkKids(t, s, at)
	}
	checkKids(t, of("p"), -1, 0)
	checkKids(t, of("p"), 0)
	checkKids(t, of("p"), 1)
	// Children that do not stand side by side, and those of the children not among them.
	checkKids(t, of("p p p0 p1 p0 p2 a0 p1 d0"), 0, 2, 4, 6, 8)
	checkKids(t, of("p p p0 p1 p0 p2 a0 p1 d0"), 1, 3, 7)
	checkKids(t, of("p p p0 p1 p0 p2 a0 p1 d0"), -1, 0, 1)
}

// What is returned is the caller's own (R4).
func TestKidsMemory(t *testing.T) {
	s := of(review)
	defer kept(t, s)()
	for at := -1; at < 14; at++ {
		first, second := Kids(s, at), Kids(s, at)
		want := slices.Clone(first)
		for i := range first {
			first[i] = -9
		}
		if !slices.Equal(second, want) || !slices.Equal(Kids(s, at), want) {
			t.Errorf("Kids of %d shares memory", at)
		}
	}
}

func TestUnder(t *testing.T) {
	s := of(review)
	for at, l := range above {
		checkUnder(t, s, at, -1, true)
		checkUnder(t, s, at, at, true)
		for top := range above {
			checkUnder(t, s, at, top, at == top || slices.Contains(l, top))
		}
	}
}

func TestUnderNoState(t *testing.T) {
	s := of(review)
	for _, bad := range append(none, 14, 15) {
		for good := -1; good < 14; good++ {
			checkUnder(t, s, bad, good, false)
			checkUnder(t, s, good, bad, false)
		}
		for _, other := range none {
			checkUnder(t, s, bad, other, false)
		}
		checkUnder(t, s, bad, bad, false)
	}
	// The top is none of the states that it is an ancestor of.
	for top := -1; top < 14; top++ {
		checkUnder(t, s, -1, top, false)
	}
	checkUnder(t, of("p"), 0, 0, true)
	checkUnder(t, of("p"), 0, -1, true)
	checkUnder(t, of("p"), 0, 1, false)
	checkUnder(t, of("p"), 1, 0, false)
	checkUnder(t, of("p"), 1, 1, false)
	checkUnder(t, of("p"), 1, -1, false)
}

func TestLevel(t *testing.T) {
	s := of(review)
	for at, l := range above {
		checkLevel(t, s, at, len(l))
	}
	for _, at := range append(none, -1, 14, 15) {
		checkLevel(t, s, at, -1)
	}
	checkLevel(t, of("p"), 0, 0)
	checkLevel(t, of("p"), 1, -1)
	checkLevel(t, of("a a0 a0 p2 d3 p3"), 5, 3)
}

func TestInitial(t *testing.T) {
	s := of(review)
	initial := map[int]int{-1: 0, 1: 2, 3: 4, 4: 5, 7: 9}
	for at := -1; at < 14; at++ {
		want, ok := initial[at]
		if !ok {
			want = -1
		}
		checkInitial(t, s, at, want)
	}
	for _, at := range append(none, 14, 15) {
		checkInitial(t, s, at, -1)
	}
	checkInitial(t, of("p"), -1, 0)
	checkInitial(t, of("a"), -1, 0)
	checkInitial(t, of("p"), 0, -1)
	checkInitial(t, of("p"), 1, -1)
	// What is Past or Deep is passed over, an All is not, nor do the children of a child count.
	checkInitial(t, of("p p h1 d1 a1 p1"), 1, 4)
	checkInitial(t, of("p p0 p1 p0"), 0, 1)
	checkInitial(t, of("p h0 p0 p2 p0"), 0, 2)
	checkInitial(t, of("a a0 p0"), 0, 1)
}

func TestDomain(t *testing.T) {
	s := of(review)
	for _, c := range []struct{ from, to, want int }{
		{0, 0, -1}, {0, 1, -1}, {0, 13, -1}, {13, 13, -1}, {0, 5, -1}, {13, 10, -1}, {0, 8, -1},
		{1, 1, -1}, {1, 2, -1}, {1, 3, -1}, {1, 5, -1}, {1, 11, -1},
		{2, 2, 1}, {2, 3, 1}, {2, 11, 1}, {2, 12, 1}, {2, 4, 1}, {2, 5, 1}, {2, 8, 1}, {2, 10, 1},
		// An All is passed over: it is an ancestor, but not Plain.
		{3, 3, 1}, {3, 4, 1}, {3, 10, 1}, {4, 4, 1}, {4, 7, 1}, {4, 5, 1}, {4, 9, 1}, {5, 9, 1}, {6, 8, 1},
		{5, 5, 4}, {5, 6, 4}, {6, 6, 4}, {9, 9, 7}, {9, 10, 7}, {8, 10, 7}, {8, 8, 7}, {7, 10, 1},
		{11, 11, 1}, {11, 12, 1}, {12, 5, 1},
	} {
		checkDomain(t, s, c.from, c.to, c.want)
	}
	checkDomain(t, of("p"), 0, 0, -1)
	// Beneath Alls alone there is none but the top.
	checkDomain(t, of("a a0 p1 p1 p0"), 2, 3, -1)
	checkDomain(t, of("a a0 p1 p1 p0"), 2, 4, -1)
	checkDomain(t, of("a a0 p1 p1 p0"), 2, 2, -1)
	// Several Alls in one another between the states and their domain.
	checkDomain(t, of("p p0 a1 a2 p3 p3 p4 p4 p5"), 6, 8, 1)
	checkDomain(t, of("p p0 a1 a2 p3 p3 p4 p4 p5"), 4, 5, 1)
	checkDomain(t, of("p p0 a1 a2 p3 p3 p4 p4 p5"), 2, 8, 1)
	checkDomain(t, of("p p0 a1 a2 p3 p3 p4 p4 p5"), 1, 8, 0)
	checkDomain(t, of("p p0 a1 a2 p3 p3 p4 p4 p5"), 0, 8, -1)
	checkDomain(t, of("p p0 a1 a2 p3 p3 p4 p4 p5"), 6, 7, 4)
}

func TestDomainNoState(t *testing.T) {
	s := of(review)
	for _, bad := range append(none, -1, 14, 15) {
		for at := range 14 {
			checkDomain(t, s, at, bad, -1)
		}
		checkDomain(t, s, bad, bad, -1)
		checkDomain(t, s, bad, -1, -1)
		checkDomain(t, s, bad, 14, -1)
	}
}

// As many states as may be, each in the one ahead of it.
func TestDeepest(t *testing.T) {
	s := chained(api.MaxStates, api.Plain)
	for at := range api.MaxStates {
		checkLevel(t, s, at, at)
		checkInitial(t, s, at-1, at)
		checkKids(t, s, at-1, at)
		for other := range at + 1 {
			checkUnder(t, s, at, other, true)
			checkUnder(t, s, other, at, at == other)
			checkDomain(t, s, at, other, other-1)
		}
	}
	checkKids(t, s, api.MaxStates-1)
	checkInitial(t, s, api.MaxStates-1, -1)
	// With Alls throughout, there is none but the top.
	s = chained(api.MaxStates, api.All)
	for at := range api.MaxStates {
		checkLevel(t, s, at, at)
		checkDomain(t, s, at, api.MaxStates-1, -1)
	}
}

// chained returns states of one kind, each in the one ahead of it.
func chained(n, kind int) Shape {
	var s Shape
	for at := range n {
		s.Kinds, s.Parents = append(s.Kinds, kind), append(s.Parents, at-1)
	}
	return s
}

// flat returns states of one kind, all at the top.
func flat(n, kind int) Shape {
	s := chained(n, kind)
	for at := range n {
		s.Parents[at] = -1
	}
	return s
}
