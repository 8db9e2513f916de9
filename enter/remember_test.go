package enter

import (
	"math"
	"slices"
	"testing"

	"imprimatur/shape"
)

// Three states with a Past, a Deep, both of them, and one with neither.
const four = "p p0 p0 h0 p p4 p4 d4 p p8 a8 h8 d8 p10 p10 p p15 p15"

//            0 1  2  3  4 5  6  7  8 9  10 11 12 13 14 15 16 17

func TestRemember(t *testing.T) {
	s := of(four)
	checkRemember(t, s, states(0, 2), []int{2, 0}, nil, map[int]uint32{0: states(2)})
	checkRemember(t, s, states(4, 6), []int{6, 4}, nil, map[int]uint32{4: states(6)})
	checkRemember(t, s, states(8, 9), []int{9, 8}, nil, map[int]uint32{8: states(9)})
	checkRemember(t, s, states(8, 10, 13, 14), []int{14, 13, 10, 8}, nil, map[int]uint32{8: states(10, 13, 14)})
	checkRemember(t, s, states(15, 17), []int{17, 15}, nil, nil)
	// A state that was remembered before: what it was left in last counts.
	past := slices.Repeat([]uint32{states(1)}, 18)
	checkRemember(t, s, states(0, 2), []int{2, 0}, past, map[int]uint32{0: states(2)})
	checkRemember(t, s, states(8, 10, 13, 14), []int{14, 13, 10, 8}, past, map[int]uint32{8: states(10, 13, 14)})
	checkRemember(t, s, states(15, 17), []int{17, 15}, past, nil)
}

// What is not left is not remembered, be the document in it or not.
func TestRememberNotLeft(t *testing.T) {
	s := of(four)
	checkRemember(t, s, states(0, 2), []int{2}, nil, nil)
	checkRemember(t, s, states(0, 2), []int{2}, tells(18, 0, states(1)), nil)
	checkRemember(t, s, states(0, 2), nil, nil, nil)
	checkRemember(t, s, states(0, 2), []int{}, tells(18, 0, states(1)), nil)
	checkRemember(t, s, states(4, 5), []int{5, 4}, tells(18, 0, states(1)), map[int]uint32{4: states(5)})
	checkRemember(t, s, states(8, 10, 13, 14), []int{14, 13}, tells(18, 8, states(9)), nil)
}

// States in one another, and side by side, that are remembered at once.
func TestRememberSeveral(t *testing.T) {
	s := of("p p h1 p1 p1 d4 a4 p6 p7 p7 h7 p6 p11 p11 d11 p4")
	set := states(1, 4, 6, 7, 9, 11, 13)
	all := map[int]uint32{1: set &^ states(1), 4: states(6, 7, 9, 11, 13), 7: states(9), 11: states(13)}
	checkRemember(t, s, set, []int{13, 11, 9, 7, 6, 4, 1}, nil, all)
	checkRemember(t, s, set, []int{1, 4, 6, 7, 9, 11, 13}, tells(16, 7, states(8)), all)
	delete(all, 1)
	checkRemember(t, s, set, []int{13, 11, 9, 7, 6, 4}, nil, all)
	checkRemember(t, s, set, []int{13, 11, 9, 7, 6, 4}, tells(16, 1, states(3)), all)
	checkRemember(t, s, set, []int{11, 13}, nil, map[int]uint32{11: states(13)})
	checkRemember(t, s, set, []int{9}, nil, nil)
	// A state that is told twice.
	checkRemember(t, s, set, []int{11, 7, 11}, nil, map[int]uint32{7: states(9), 11: states(13)})
}

// As many elements as there are states, however many past has.
func TestRememberLength(t *testing.T) {
	s := of(four)
	whole := slices.Repeat([]uint32{states(1), states(2), states(3)}, 11)
	for n := range whole {
		past := whole[:n]
		checkRemember(t, s, states(0, 2), []int{2, 0}, past, map[int]uint32{0: states(2)})
		checkRemember(t, s, states(8, 9), []int{9, 8}, past, map[int]uint32{8: states(9)})
		checkRemember(t, s, states(8, 9), nil, past, nil)
		checkRemember(t, of("p"), states(0), []int{0}, past, nil)
		checkRemember(t, of("p p0 h0"), states(0, 1), []int{1, 0}, past, map[int]uint32{0: states(1)})
		if l := Remember(s, states(0, 1), []int{1, 0}, past); len(l) != 18 {
			t.Errorf("Remember with %d elements tells %d", n, len(l))
		}
	}
}

func TestRememberNoState(t *testing.T) {
	s := of(four)
	checkRemember(t, s, states(0, 2), append(slices.Clone(none), -1, 18, 19, 0, 20), tells(18, 4, states(5)), map[int]uint32{0: states(2)})
	checkRemember(t, s, states(0, 2), append(slices.Clone(none), -1, 18, 19), nil, nil)
}

// What Remember tells and what Enter asks for are one thing.
func TestRememberAndReturn(t *testing.T) {
	s := of(history)
	set := states(1, 3, 6, 8, 9, 11, 13)
	left := Leave(s, set, -1)
	past := Remember(s, set, left, nil)
	checkEnter(t, s, -1, 5, past, 1, 3, 6, 8, 9, 11, 13)
	checkEnter(t, s, -1, 4, past, 1, 3, 6, 7, 9, 12)
	past = Remember(s, states(1, 2), Leave(s, states(1, 2), -1), past)
	checkEnter(t, s, -1, 5, past, 1, 2)
	checkEnter(t, s, -1, 4, past, 1, 2)
}

// What is no shape, no configuration, and no past ends no call, though the calls are asked of none of them.
func TestNoShape(t *testing.T) {
	odd := []int{math.MinInt, -2, -1, 0, 1, 2, 3, 4, 5, math.MaxInt}
	for _, n := range [][2]int{{0, 0}, {0, 1}, {1, 0}, {1, 1}, {2, 1}, {1, 2}, {2, 2}, {3, 2}, {2, 3}} {
		each(odd, n[0], func(kinds []int) {
			each(odd, n[1], func(parents []int) {
				askAll(shape.Shape{Kinds: kinds, Parents: parents}, nil)
			})
		})
	}
	every := slices.Repeat([]uint32{math.MaxUint32}, 40)
	for _, text := range []string{"p", "p1 p0", "p p2 p3 p1", "a p0 h0", "a p0 d0", "h d", "p h0 d0", "p h0 p0 d0", "p p0 d0 h0 a1 p4 p4", regions, history} {
		askAll(of(text), every)
		askAll(of(text), every[:1])
		for at := range 12 {
			askAll(of(text), slices.Repeat([]uint32{1 << at}, 24))
		}
	}
}

// each calls f with all lists of n of some numbers.
func each(of []int, n int, f func(l []int)) {
	l := make([]int, n)
	var next func(at int)
	next = func(at int) {
		if at == n {
			f(l)
			return
		}
		for _, l[at] = range of {
			next(at + 1)
		}
	}
	next(0)
}

func askAll(s shape.Shape, past []uint32) {
	Start(s)
	for at := -2; at < len(s.Kinds)+2; at++ {
		for to := -2; to < len(s.Parents)+2; to++ {
			Enter(s, at, to, past)
		}
		for _, set := range []uint32{0, 1, 5, math.MaxUint32} {
			Leave(s, set, at)
			Remember(s, set, []int{at, 0, 1, at + 1}, past)
		}
	}
}
