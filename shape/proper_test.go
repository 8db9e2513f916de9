package shape

import (
	"math"
	"slices"
	"testing"

	"imprimatur/api"
)

// states returns the set of some states.
func states(at ...int) (set uint32) {
	for _, i := range at {
		set |= 1 << i
	}
	return set
}

func checkProper(t *testing.T, want bool, s Shape, set uint32) {
	t.Helper()
	defer kept(t, s)()
	if proper := Proper(s, set); proper != want {
		t.Errorf("Proper(%v, %b) is %t", s, set, proper)
	}
}

// checkConfigurations holds Proper of all sets of the states, and of some beyond them, against the list of those that are configurations.
func checkConfigurations(t *testing.T, text string, want ...uint32) {
	t.Helper()
	s := of(text)
	n := len(s.Kinds)
	for set := range uint32(2 << n) {
		checkProper(t, slices.Contains(want, set), s, set)
	}
	for _, set := range want {
		for i := n; i < 32; i++ {
			checkProper(t, false, s, set|1<<i)
		}
	}
}

func TestExample(t *testing.T) {
	checkProper(t, true, Shape{[]int{api.Plain}, []int{-1}}, 1)
	checkConfigurations(t, "p", 1)
	checkConfigurations(t, "a", 1)
}

func TestProper(t *testing.T) {
	// The top is in one of its states at a time.
	checkConfigurations(t, "p a p", 0b001, 0b010, 0b100)
	// So is a Plain, and in no Past or Deep of its own.
	checkConfigurations(t, "p p0 p0", 0b011, 0b101)
	checkConfigurations(t, "p h0 p0 d0 p0", 0b00101, 0b10001)
	checkConfigurations(t, "p p p0 p1", 0b0101, 0b1010)
	checkConfigurations(t, "p p0 p1 p2", 0b1111)
	// An All is in all of them at once.
	checkConfigurations(t, "a a0 p0", 0b111)
	checkConfigurations(t, "p a p1 p1", 0b0001, 0b1110)
	checkConfigurations(t, "a p0 p0 p1 p1 p2 p2 h2", 0b0101111, 0b1001111, 0b0110111, 0b1010111)
	checkConfigurations(t, "p a0 p0 a1 p1 d0", 0b011011, 0b000101)
}

func TestProperReview(t *testing.T) {
	checks := states(1, 3, 4, 7)
	checkConfigurations(t, review,
		states(0), states(13), states(1, 2),
		checks|states(5, 9), checks|states(5, 10), checks|states(6, 9), checks|states(6, 10))
}

func TestProperEmpty(t *testing.T) {
	for _, text := range []string{"p", "a", "p p", "a p0", "p p0 h0", review} {
		checkProper(t, false, of(text), 0)
	}
}

func TestProperBeyond(t *testing.T) {
	s := of(review)
	good := states(1, 2)
	checkProper(t, true, s, good)
	for i := 14; i < 32; i++ {
		checkProper(t, false, s, good|1<<i)
		checkProper(t, false, s, 1<<i)
	}
	checkProper(t, false, s, math.MaxUint32)
	most := flat(api.MaxStates, api.Plain)
	for i := range 32 {
		checkProper(t, i < api.MaxStates, most, 1<<i)
		checkProper(t, i == 0, most, 1|1<<i)
	}
	checkProper(t, true, chained(api.MaxStates, api.All), 1<<api.MaxStates-1)
	checkProper(t, false, chained(api.MaxStates, api.All), 1<<(api.MaxStates+1)-1)
	checkProper(t, false, chained(api.MaxStates, api.All), math.MaxUint32)
}

// Each set is a configuration but for one thing.
func TestProperBroken(t *testing.T) {
	s := of(review)
	good := states(1, 3, 4, 5, 7, 9)
	checkProper(t, true, s, good)
	for _, c := range []struct {
		why string
		set uint32
	}{
		{"two states of the top", good | states(0)},
		{"two states of the top, a leaf that is All", good | states(13)},
		{"no state of the top", good &^ states(1)},
		{"a Past of a state in it", good | states(11)},
		{"a Deep of a state in it", good | states(12)},
		{"a Past further in", good | states(8)},
		{"a Past in place of a state", good&^states(9) | states(8)},
		{"a Past of a state not in it", states(0, 8)},
		{"a Deep of a state not in it", states(0, 12)},
		{"an All without all of a child", good &^ states(4, 5)},
		{"an All without all of another child", good &^ states(7, 9)},
		{"an All without children", states(1, 3)},
		{"an All without a child, of which there are children", good &^ states(7)},
		{"a Plain without children", good &^ states(5)},
		{"a Plain at the top without children", states(1)},
		{"a Plain with two children", good | states(6)},
		{"a Plain with two children, a leaf and an All", good | states(2)},
		{"a Plain with two children, both leaves", good | states(10)},
		{"a state whose parent is not in it", states(0, 2)},
		{"a state further in whose parent is not in it", states(0, 9)},
		{"states whose parent is not in it, all else in order", states(0, 3, 4, 5, 7, 9)},
	} {
		if Proper(s, c.set) {
			t.Errorf("Proper of %s is true", c.why)
		}
		checkProper(t, false, s, c.set)
	}
	for i := range 32 {
		checkProper(t, false, s, good^1<<i)
	}
}
