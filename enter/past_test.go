package enter

import (
	"testing"
)

// pasts returns pasts of which each tells nothing of state 1 of history: 0, no element, and no elements at all.
func pasts() [][]uint32 {
	others := tells(17, 3, states(6, 7, 9, 13))
	others[14] = states(16)
	return [][]uint32{nil, {}, tells(17, 1, 0), others, tells(1, 1, states(3)), tells(0, 1, states(3)), tells(30, 1, 0)}
}

// A state that never was left is entered by its Initial.
func TestNothingPast(t *testing.T) {
	s := of(history)
	for _, past := range pasts() {
		for _, to := range []int{4, 5} {
			checkEnter(t, s, -1, to, past, 1, 2)
			checkEnter(t, s, 1, to, past, 2)
		}
	}
	for _, kid := range []string{"h", "d"} {
		checkEnter(t, of("p "+kid+"0 p0 p2 p2"), -1, 1, nil, 0, 2, 3)
		checkEnter(t, of("p "+kid+"0 p0 p2 p2"), 0, 1, nil, 2, 3)
		checkEnter(t, of("p "+kid+"0 a0 p2 p2"), -1, 1, nil, 0, 2, 3, 4)
		checkEnter(t, of("p p0 "+kid+"0 p1 a1 p4"), 0, 2, []uint32{0, states(4, 5)}, 1, 3)
	}
}

// A Past leads to the child that its parent was left in last, and from there on to the first ones.
func TestPast(t *testing.T) {
	s := of(history)
	leaf, plain, all := tells(17, 1, states(2)), tells(17, 1, states(14, 16)), tells(17, 1, states(3, 6, 8, 9, 11, 13))
	checkEnter(t, s, -1, 4, leaf, 1, 2)
	checkEnter(t, s, -1, 4, plain, 1, 14, 15)
	checkEnter(t, s, -1, 4, all, 1, 3, 6, 7, 9, 12)
	checkEnter(t, s, 1, 4, leaf, 2)
	checkEnter(t, s, 1, 4, plain, 14, 15)
	checkEnter(t, s, 1, 4, all, 3, 6, 7, 9, 12)
	// Two elements are enough, and more than there are states do no harm.
	checkEnter(t, s, -1, 4, tells(2, 1, states(14, 16)), 1, 14, 15)
	checkEnter(t, s, -1, 4, tells(30, 1, states(14, 16)), 1, 14, 15)
	// The Past stands ahead of the states, or among them.
	checkEnter(t, of("p h0 p0 p0"), 0, 1, []uint32{states(3)}, 3)
	checkEnter(t, of("p p0 h0 p0 a0"), 0, 2, []uint32{states(4)}, 4)
	checkEnter(t, of("p p0 h0 p0 d0 p0"), 0, 2, []uint32{states(5)}, 5)
}

// A Deep leads to all that was under its parent, and to nothing else.
func TestDeep(t *testing.T) {
	s := of(history)
	leaf, plain, all := tells(17, 1, states(2)), tells(17, 1, states(14, 16)), tells(17, 1, states(3, 6, 8, 9, 11, 13))
	checkEnter(t, s, -1, 5, leaf, 1, 2)
	checkEnter(t, s, -1, 5, plain, 1, 14, 16)
	checkEnter(t, s, -1, 5, all, 1, 3, 6, 8, 9, 11, 13)
	checkEnter(t, s, 1, 5, leaf, 2)
	checkEnter(t, s, 1, 5, plain, 14, 16)
	checkEnter(t, s, 1, 5, all, 3, 6, 8, 9, 11, 13)
	checkEnter(t, s, 1, 5, tells(17, 1, states(3, 6, 7, 9, 13)), 3, 6, 7, 9, 13)
	checkEnter(t, s, 1, 5, tells(2, 1, states(14, 16)), 14, 16)
	checkEnter(t, s, 1, 5, tells(30, 1, states(14, 16)), 14, 16)
	// What other states tell has no part in it.
	past := tells(17, 1, states(3, 6, 7, 9, 12))
	past[0], past[3], past[6], past[9], past[5], past[14] = states(1), states(6, 8, 10, 9, 13), states(8, 10), states(13), states(2), states(16)
	checkEnter(t, s, 1, 5, past, 3, 6, 7, 9, 12)
	checkEnter(t, s, 1, 4, past, 3, 6, 7, 9, 12)
	checkEnter(t, s, 1, 3, past, 3, 6, 7, 9, 12)
}

// A Past or a Deep in a region: the other regions are entered by their first states, whatever past tells of them.
func TestPastInRegion(t *testing.T) {
	for _, kid := range []string{"h", "d"} {
		s := of("p a p1 p2 p2 p1 p5 p5 " + kid + "5 " + kid + "2 p1 p10 p10")
		past := make([]uint32, 13)
		past[1], past[2], past[5], past[10] = states(2, 4, 5, 7, 10, 12), states(4), states(7), states(12)
		checkEnter(t, s, -1, 8, past, 1, 5, 7, 2, 3, 10, 11)
		checkEnter(t, s, -1, 9, past, 1, 2, 4, 5, 6, 10, 11)
		checkEnter(t, s, 5, 8, past, 7)
		checkEnter(t, s, 2, 9, past, 4)
		checkEnter(t, s, -1, 8, past[:5], 1, 5, 6, 2, 3, 10, 11)
		checkEnter(t, s, -1, 9, past[:3], 1, 2, 4, 5, 6, 10, 11)
		checkEnter(t, s, -1, 9, past[:2], 1, 2, 3, 5, 6, 10, 11)
	}
	checkEnter(t, of(regions), -1, 12, tells(16, 9, states(11)), 1, 9, 11, 2, 3, 13, 14, 15)
	checkEnter(t, of(regions), -1, 12, tells(9, 9, states(11)), 1, 9, 10, 2, 3, 13, 14, 15)
	checkEnter(t, of(regions), 9, 12, tells(16, 9, states(11)), 11)
}

// A Past and a Deep are entered by no other way: what their parent had is not asked.
func TestPastNotAsked(t *testing.T) {
	s := of(history)
	past := tells(17, 1, states(3, 6, 8, 9, 11, 13))
	checkEnter(t, s, -1, 1, past, 1, 2)
	checkEnter(t, s, -1, 2, past, 1, 2)
	checkEnter(t, s, -1, 3, past, 1, 3, 6, 7, 9, 12)
	checkEnter(t, s, -1, 14, past, 1, 14, 15)
	checkEnter(t, s, -1, 16, past, 1, 14, 16)
	checkEnter(t, s, -1, 10, past, 1, 3, 6, 8, 10, 9, 12)
	checkEnter(t, s, 1, 14, past, 14, 15)
	s = of("p p h1 d1 p1 p1 h5 d5 p5 p5")
	past = []uint32{0, states(5, 9), 0, 0, 0, states(9)}
	checkEnter(t, s, -1, 1, past, 1, 4)
	checkEnter(t, s, -1, 5, past, 1, 5, 8)
	checkEnter(t, s, 1, 5, past, 5, 8)
	checkEnter(t, s, -1, 8, past, 1, 5, 8)
	// Nor is that of a child that they lead to.
	checkEnter(t, s, 1, 2, past, 5, 8)
	checkEnter(t, s, 1, 3, past, 5, 9)
	checkEnter(t, s, 5, 6, past, 9)
	checkEnter(t, s, -1, 6, past, 1, 5, 9)
	checkEnter(t, s, -1, 7, past, 1, 5, 9)
}
