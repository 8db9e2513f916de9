package chart

import (
	"math"
	"slices"
	"strconv"
	"strings"
	"testing"

	"imprimatur/api"
	"imprimatur/shape"
)

// states returns the set of some states.
func states(at ...int) (set uint32) {
	for _, i := range at {
		set |= 1 << i
	}
	return set
}

func checkReach(t *testing.T, c Chart, want ...int) {
	t.Helper()
	defer kept(t, c)()
	for range 2 {
		if set := Reach(c); set != states(want...) {
			t.Errorf("Reach(%+v) is %b, not %v", c, set, want)
		}
	}
}

// checkOrders holds Reach of a chart with its transitions in all orders.
func checkOrders(t *testing.T, shapeText, transitions string, want ...int) {
	t.Helper()
	var next func(done, open []string)
	next = func(done, open []string) {
		if len(open) == 0 {
			checkReach(t, of(shapeText, strings.Join(done, " ")), want...)
		}
		for i, word := range open {
			if t.Failed() {
				return
			}
			next(append(slices.Clone(done), word), slices.Delete(slices.Clone(open), i, i+1))
		}
	}
	next(nil, strings.Fields(transitions))
}

// Without transitions: what a document begins in.
func TestReachStart(t *testing.T) {
	checkReach(t, of("p", ""), 0)
	checkReach(t, of("a", ""), 0)
	checkReach(t, of("p p", ""), 0)
	checkReach(t, of("p p p0 p0 p1", ""), 0, 2)
	checkReach(t, of("a p0 p0 p1 p1 p2 h1 d1", ""), 0, 1, 2, 3, 5)
	checkReach(t, of("p h0 d0 p0 p0", ""), 0, 3)
	checkReach(t, of(strings.Repeat("p ", api.MaxStates), ""), 0)
}

func TestReachTransitions(t *testing.T) {
	checkReach(t, of("p p p", "0>1"), 0, 1)
	checkReach(t, of("p p p", "0>2"), 0, 2)
	checkReach(t, of("p p p p2 p2 p4", "0>2"), 0, 2, 3)
	checkReach(t, of("p p p p2 p2 p4", "0>4"), 0, 2, 4, 5)
	// From a state that a document is in by one in it.
	checkReach(t, of("p p0 p1 p", "0>3"), 0, 1, 2, 3)
	checkReach(t, of("p p0 p1 p", "1>3"), 0, 1, 2, 3)
	checkReach(t, of("p p0 p1 p", "2>3"), 0, 1, 2, 3)
}

func TestReachNotFrom(t *testing.T) {
	checkReach(t, of("p p p", "1>2"), 0)
	checkReach(t, of("p p p", "1>2 2>1 1>0"), 0)
	checkReach(t, of("p p0 p0 p p3", "2>3 4>2 3>2"), 0, 1)
	checkReach(t, of("p p h1 p1 p1", "1>2 4>2 3>4"), 0)
	checkReach(t, of("p p h1 p1 p1", "0>1 4>0"), 0, 1, 3)
	checkReach(t, of("a p0 p0 p1 p1 p2", "4>5"), 0, 1, 2, 3, 5)
}

func TestReachSelf(t *testing.T) {
	checkReach(t, of("p", "0>0"), 0)
	checkReach(t, of("p p", "0>0 1>1"), 0)
	checkReach(t, of("p p0 p0", "0>0 1>1 2>2"), 0, 1)
	checkReach(t, of("p p0 p0 p2 p2", "1>2 2>2"), 0, 1, 2, 3)
	checkReach(t, of("p p0 p0 p2 p2", "1>4 2>2"), 0, 1, 2, 3, 4)
	// A state that is left for one in it, and for one that it is in.
	checkReach(t, of("p p0 p0", "0>2"), 0, 1, 2)
	checkReach(t, of("p p0 p0", "1>0"), 0, 1)
}

// Transitions lead on from what others reached, whatever their order.
func TestReachOn(t *testing.T) {
	checkOrders(t, "p p p p p", "0>1 1>2 2>3", 0, 1, 2, 3)
	checkOrders(t, "p p p p p", "0>1 1>2 3>4 2>0", 0, 1, 2)
	checkOrders(t, "p p p p2 p p4 p", "0>1 1>3 2>5 3>2 6>6", 0, 1, 2, 3, 4, 5)
	checkOrders(t, "a p0 p0 p1 p1 p2 p2 p", "3>4 4>6 5>7", 0, 1, 2, 3, 4, 5, 6, 7)
}

// A chain through as many states as there may be, from the first transition on and from the last.
func TestReachChain(t *testing.T) {
	var on []string
	for at := range api.MaxStates - 1 {
		on = append(on, strconv.Itoa(at)+">"+strconv.Itoa(at+1))
	}
	back := slices.Clone(on)
	slices.Reverse(back)
	all := make([]int, api.MaxStates)
	for i := range all {
		all[i] = i
	}
	flat := strings.Repeat("p ", api.MaxStates)
	checkReach(t, of(flat, strings.Join(on, " ")), all...)
	checkReach(t, of(flat, strings.Join(back, " ")), all...)
	// Where one is missing, nothing behind it is reached.
	for at, word := range on {
		checkReach(t, of(flat, strings.ReplaceAll(strings.Join(back, " "), word, "0>0")), all[:at+1]...)
	}
}

// The kind of a transition, and what it asks for, have no part in it.
func TestReachKinds(t *testing.T) {
	c := of("p p p p", "")
	c.Trans = []Trans{
		{Kind: api.After, From: 2, To: 3, Time: api.MaxTime},
		{Kind: api.On, From: 1, To: 2, Event: "e", Perm: "p", Task: "t"},
		{Kind: api.Auto, From: 0, To: 1},
	}
	checkReach(t, spread(c), 0, 1, 2, 3)
	checkReach(t, whole(), 0, 1, 2, 3)
	checkReach(t, reviewChart(), 0, 1, 2, 3, 7, 8)
}

// All of an All are entered, by their first states but for the one on the way.
func TestReachAll(t *testing.T) {
	s := "p a p1 p1 p2 p2 p3 p3 a3 p8 p9 p9 p8"
	checkReach(t, of(s, "0>1"), 0, 1, 2, 3, 4, 6)
	checkReach(t, of(s, "0>2"), 0, 1, 2, 3, 4, 6)
	checkReach(t, of(s, "0>5"), 0, 1, 2, 3, 5, 6)
	checkReach(t, of(s, "0>7"), 0, 1, 2, 3, 4, 7)
	checkReach(t, of(s, "0>11"), 0, 1, 2, 3, 4, 8, 9, 11, 12)
	checkReach(t, of(s, "0>12"), 0, 1, 2, 3, 4, 8, 9, 10, 12)
	checkReach(t, of(s, "0>11 4>12"), 0, 1, 2, 3, 4, 8, 9, 10, 11, 12)
	checkReach(t, of(s, "0>1 6>12"), 0, 1, 2, 3, 4, 6, 8, 9, 10, 12)
	// From one of its states to another of them it is left, and entered again.
	checkReach(t, of(s, "0>5 5>7"), 0, 1, 2, 3, 4, 5, 6, 7)
}

// The domain is that of both states: what is outside of it isn't entered again.
func TestReachDomain(t *testing.T) {
	s := "p a p1 p1 p2 p2 p3 p3"
	checkReach(t, of(s, "0>7 4>5"), 0, 1, 2, 3, 4, 5, 7)
	checkReach(t, of(s, "0>5 6>7"), 0, 1, 2, 3, 5, 6, 7)
	checkReach(t, of(s, "0>5 0>7 5>4"), 0, 1, 2, 3, 4, 5, 6, 7)
	// Within a Plain state, its first state isn't entered on the way to another.
	checkReach(t, of("p p p1 p1 p1", "0>3 3>4"), 0, 1, 3, 4)
	checkReach(t, of("p p p1 p1 p1", "0>3 3>4 1>1"), 0, 1, 2, 3, 4)
}

// Of a Deep no more is entered than what its parent begins in; all else that it leads to was reached in other ways.
func TestReachDeep(t *testing.T) {
	s := "p p p1 p2 p2 p1 p5 p5 d1"
	checkReach(t, of(s, "0>8"), 0, 1, 2, 3)
	checkReach(t, of(s, "0>7 7>0 0>8"), 0, 1, 2, 3, 5, 7)
	checkReach(t, of(s, "0>7 5>8"), 0, 1, 2, 3, 5, 7)
	checkReach(t, of("p p0 p0 d0 p2 p2", "1>3 1>5"), 0, 1, 2, 5)
}

func TestReachPast(t *testing.T) {
	s := "p p p1 p2 p2 p1 p5 p5 p1 p8 p8 h1"
	checkReach(t, of(s, "0>11"), 0, 1, 2, 3)
	// Some of the children of its parent are reached by others: they are entered completely.
	checkOrders(t, s, "0>7 7>0 0>11", 0, 1, 2, 3, 5, 6, 7)
	checkOrders(t, s, "0>7 7>10 10>11", 0, 1, 2, 3, 5, 6, 7, 8, 9, 10)
	checkOrders(t, s, "0>4 4>7 4>11", 0, 1, 2, 3, 4, 5, 6, 7)
	// Without the way to it, they aren't.
	checkReach(t, of(s, "0>7 7>0"), 0, 1, 5, 7)
	checkReach(t, of(s, "0>7 7>0 10>11"), 0, 1, 5, 7)
	checkReach(t, of(s, "0>7 7>0 0>1"), 0, 1, 2, 3, 5, 7)
	// What a child leads to only then leads on.
	checkOrders(t, s, "0>7 0>11 6>10", 0, 1, 2, 3, 5, 6, 7, 8, 9, 10)
	checkOrders(t, s, "0>7 0>11 3>10 9>4", 0, 1, 2, 3, 4, 5, 6, 7, 8, 9, 10)
}

// A Past of a parent that has an All, one in another, and two of one parent.
func TestReachPasts(t *testing.T) {
	checkReach(t, of("p p a1 p2 p2 p3 p3 h1 p1", "0>6"), 0, 1, 2, 3, 4, 6)
	checkReach(t, of("p p a1 p2 p2 p3 p3 h1 p1", "0>6 0>7"), 0, 1, 2, 3, 4, 5, 6)
	checkReach(t, of("p p p1 a1 p3 p3 p4 p4 h1", "0>7 0>8"), 0, 1, 2, 3, 4, 5, 6, 7)
	nested := "p p p1 p1 p3 p3 h3 h1 p5 p5"
	checkReach(t, of(nested, "0>9"), 0, 1, 3, 5, 9)
	checkReach(t, of(nested, "0>9 0>6"), 0, 1, 3, 4, 5, 8, 9)
	checkReach(t, of(nested, "0>9 0>7"), 0, 1, 2, 3, 4, 5, 9)
	checkReach(t, of(nested, "0>9 0>7 2>6"), 0, 1, 2, 3, 4, 5, 8, 9)
	checkReach(t, of("p p p1 p1 p3 p3 h1 h1", "0>5 0>7"), 0, 1, 2, 3, 4, 5)
	checkReach(t, of("p p p1 p1 p3 p3 h1 d1", "0>5 0>7"), 0, 1, 2, 3, 5)
	// Its own parent's children alone, not those of another, nor those deeper.
	checkReach(t, of("p p p1 p1 h1 p p5 p6 p6 p5", "0>8 0>4"), 0, 1, 2, 5, 6, 8)
	checkReach(t, of("p p p1 p2 p3 p3 p1 h1", "0>5 0>7"), 0, 1, 2, 3, 4, 5)
	checkReach(t, of("p p p1 p2 p2 p4 p4 h1", "0>6 0>7"), 0, 1, 2, 3, 4, 6)
}

// A transition whose From or To is no state leads nowhere; From a Past or a Deep no document ever goes.
func TestReachOddTransitions(t *testing.T) {
	for _, at := range []int{math.MinInt, math.MinInt32, -33, -2, -1, 4, 5, 24, 31, 32, 33, 64, math.MaxInt} {
		for _, x := range []Trans{{From: at, To: 1}, {From: 0, To: at}, {From: at, To: at}, {From: 1, To: at}, {From: 2, To: at}} {
			c := of("p p0 p0 h0", "0>0")
			c.Trans = append(c.Trans, x)
			checkReach(t, c, 0, 1)
			c.Trans = append(c.Trans, Trans{From: 1, To: 2})
			checkReach(t, c, 0, 1, 2)
		}
	}
	checkReach(t, of("p p0 p0 h0 d0", "3>2 4>2"), 0, 1)
	checkReach(t, of("p p0 p0 h0 d0", "1>3 1>4 3>2 4>2"), 0, 1)
	// Names have no part in it, nor has the number of the transitions.
	c := of("p p p p", "0>1 2>3")
	c.Names = nil
	checkReach(t, c, 0, 1)
	c.Trans = append(slices.Repeat([]Trans{{From: 1, To: 0}}, 10*api.MaxTrans), Trans{From: 1, To: 2}, Trans{From: 0, To: 1})
	checkReach(t, c, 0, 1, 2)
}

// What has no shape ends no call.
func TestNoChart(t *testing.T) {
	checkReach(t, Chart{})
	checkReach(t, Chart{Trans: []Trans{{}, {From: -1, To: -1}}})
	odd := []int{math.MinInt, -2, -1, 0, 1, 2, 3, 4, 5, math.MaxInt}
	for _, a := range odd {
		for _, b := range odd {
			for _, parents := range [][]int{nil, {-1}, {-1, 0}, {1, 0}, {0, a}, {b, a, 1}} {
				c := Chart{Names: []string{"a", "b"}, Shape: shape.Shape{Kinds: []int{a, b}, Parents: parents}, Trans: []Trans{{From: a, To: b, Kind: api.Auto}, {From: 0, To: 1, Kind: api.Auto}}}
				if valid, set := Valid(c), Reach(c); !shape.Valid(c.Shape) && (valid || set != 0) {
					t.Errorf("of %+v Valid is %t, Reach is %b", c, valid, set)
				}
				if !Same(c, c) {
					t.Errorf("%+v is not the same as itself", c)
				}
			}
		}
	}
}
