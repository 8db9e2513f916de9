package step

import (
	"math"
	"strings"
	"testing"

	"imprimatur/api"
	"imprimatur/chart"
)

func TestTakeNoTransition(t *testing.T) {
	c := of("p p", "0>1 go:0>1 5@0>1")
	for _, trans := range []int{math.MinInt, math.MinInt32, -256, -2, -1, 3, 4, 5, 6, 47, 48, 256, 1 << 32, math.MaxInt} {
		checkTakeError(t, c, document(c, 0), trans, api.ErrArg)
		// It comes ahead of ErrState.
		checkTakeError(t, c, document(c, 1), trans, api.ErrArg)
		checkTakeError(t, c, document(c), trans, api.ErrArg)
	}
	c = of("p p", "")
	for _, trans := range []int{-1, 0, 1, 2} {
		checkTakeError(t, c, document(c, 0), trans, api.ErrArg)
	}
	c.Trans = nil
	checkTakeError(t, c, document(c, 0), 0, api.ErrArg)
}

func TestTakeNotThere(t *testing.T) {
	c := of("p p p1 p1 a p4 p4", "0>1 go:2>0 5@3>0 4>0 5>6 1>1")
	for _, doc := range []struct {
		in, not []int
	}{
		{[]int{0}, []int{1, 2, 3, 4, 5}},
		{[]int{1, 2}, []int{0, 2, 3, 4}},
		{[]int{1, 3}, []int{0, 1, 3, 4}},
		{[]int{4, 5, 6}, []int{0, 1, 2, 5}},
		{nil, []int{0, 1, 2, 3, 4, 5}},
		// A state under From is not enough.
		{[]int{2}, []int{0, 2, 3, 4, 5}},
	} {
		for _, trans := range doc.not {
			checkTakeError(t, c, document(c, doc.in...), trans, api.ErrState)
		}
	}
}

// Every kind is taken alike; what an On asks for and the time of an After have no part in it.
func TestTakeKinds(t *testing.T) {
	c := of("p p", "0>1 go:0>1 5@0>1 1000000000@0>1 go:0>1")
	c.Trans[4].Perm, c.Trans[4].Task = "write", "send"
	for trans := range c.Trans {
		checkTake(t, c, at(c, "0@3"), trans, 4, at(c, "1@4"))
	}
}

// A transition to itself, to a state beside, above, below, and out.
func TestTakeFlat(t *testing.T) {
	c := of("p p p1 p1 p3 p3 p", "0>0 0>6 1>1 1>2 1>3 1>5 3>1 3>3 5>3 5>1 5>4 5>2 5>6 5>5 2>5")
	in := "1@1 3@2 5@3"
	checkTake(t, c, at(c, "0@3"), 0, 7, at(c, "0@7"))
	checkTake(t, c, at(c, "0@3"), 1, 7, at(c, "6@7"))
	checkTake(t, c, at(c, in), 2, 7, at(c, "1@7 2@7"))
	checkTake(t, c, at(c, in), 3, 7, at(c, "1@7 2@7"))
	checkTake(t, c, at(c, in), 4, 7, at(c, "1@7 3@7 4@7"))
	checkTake(t, c, at(c, in), 5, 7, at(c, "1@7 3@7 5@7"))
	checkTake(t, c, at(c, in), 6, 7, at(c, "1@7 2@7"))
	// Within 1 it is not left: its Since stays.
	checkTake(t, c, at(c, in), 7, 7, at(c, "1@1 3@7 4@7"))
	checkTake(t, c, at(c, in), 8, 7, at(c, "1@1 3@7 4@7"))
	checkTake(t, c, at(c, in), 9, 7, at(c, "1@7 2@7"))
	checkTake(t, c, at(c, in), 10, 7, at(c, "1@1 3@2 4@7"))
	checkTake(t, c, at(c, in), 11, 7, at(c, "1@1 2@7"))
	checkTake(t, c, at(c, in), 12, 7, at(c, "6@7"))
	checkTake(t, c, at(c, in), 13, 7, at(c, "1@1 3@2 5@7"))
	checkTake(t, c, at(c, "1@1 2@2"), 14, 7, at(c, "1@1 3@7 5@7"))
}

// Of an All: within a region, from one to another, to it and out of it.
func TestTakeRegions(t *testing.T) {
	c := of("p a0 p1 p1 p2 p2 p3 p3 p0 p", "4>5 4>7 1>1 7>1 5>2 5>8 8>7 6>9 2>3 1>5 8>1")
	in := "0@1 1@2 2@3 3@4 4@5 7@6"
	checkTake(t, c, at(c, in), 0, 9, at(c, "0@1 1@2 2@3 3@4 5@9 7@6"))
	// Between regions the All is left, and entered again.
	checkTake(t, c, at(c, in), 1, 9, at(c, "0@1 1@9 2@9 3@9 4@9 7@9"))
	checkTake(t, c, at(c, in), 2, 9, at(c, "0@1 1@9 2@9 3@9 4@9 6@9"))
	checkTake(t, c, at(c, in), 3, 9, at(c, "0@1 1@9 2@9 3@9 4@9 6@9"))
	checkTake(t, c, at(c, in), 8, 9, at(c, "0@1 1@9 2@9 3@9 4@9 6@9"))
	checkTake(t, c, at(c, in), 9, 9, at(c, "0@1 1@9 2@9 3@9 5@9 6@9"))
	in = "0@1 1@2 2@3 3@4 5@5 6@6"
	checkTake(t, c, at(c, in), 4, 9, at(c, "0@1 1@9 2@9 3@9 4@9 6@9"))
	checkTake(t, c, at(c, in), 5, 9, at(c, "0@1 8@9"))
	checkTake(t, c, at(c, in), 7, 9, at(c, "9@9"))
	checkTake(t, c, at(c, "0@1 8@2"), 6, 9, at(c, "0@1 1@9 2@9 3@9 4@9 7@9"))
	checkTake(t, c, at(c, "0@1 8@2"), 10, 9, at(c, "0@1 1@9 2@9 3@9 4@9 6@9"))
}

// A now that is 0, below 0, or ahead of what was: it is taken as it is.
func TestTakeNow(t *testing.T) {
	c := of("a p0 p0 p1 p1 p2 p2", "3>4 0>0")
	for _, now := range []int{math.MinInt, -api.MaxTime, -2, -1, 0, 1, 99, 100, 101, api.MaxTime, api.MaxTime + 1, math.MaxInt} {
		x := document(c, 0, 1, 2, 3, 6)
		want := document(c, 0, 1, 2, 4, 6)
		want.Since[4] = now
		checkTake(t, c, x, 0, now, want)
		want = document(c, 0, 1, 2, 3, 5)
		for _, i := range []int{0, 1, 2, 3, 5} {
			want.Since[i] = now
		}
		checkTake(t, c, x, 1, now, want)
	}
}

// remembering is a chart in which each of two states, one in the other, has a Past and a Deep; 0 stands outside.
// 1 has 2, 3, the Past 4 and the Deep 5; 3 has 6, 7, the Past 8 and the Deep 9; 7 has 10 and 11.
const remembering = "p p p1 p1 h1 d1 p3 p3 h3 d3 p7 p7"

func TestTakeRemembers(t *testing.T) {
	c := of(remembering, "1>0 2>0 11>0 11>2 6>7 7>6 0>1 1>2")
	in := "1@1 3@2 7@3 11@4"
	checkTake(t, c, at(c, in), 0, 9, at(c, "0@9 1:3,7,11 3:7,11"))
	checkTake(t, c, at(c, in), 2, 9, at(c, "0@9 1:3,7,11 3:7,11"))
	// Only what is left is remembered: 1 isn't here.
	checkTake(t, c, at(c, in), 3, 9, at(c, "1@1 2@9 3:7,11"))
	checkTake(t, c, at(c, in), 5, 9, at(c, "1@1 3@2 6@9"))
	checkTake(t, c, at(c, "1@1 2@2"), 1, 9, at(c, "0@9 1:2"))
	// What is remembered stays where nothing is left, and is another where it is left in another state.
	checkTake(t, c, at(c, "0@1 1:3,7,11 3:7,11"), 6, 9, at(c, "1@9 2@9 1:3,7,11 3:7,11"))
	checkTake(t, c, at(c, "1@1 2@2 1:3,7,11 3:7,11"), 1, 9, at(c, "0@9 1:2 3:7,11"))
	checkTake(t, c, at(c, in+" 1:2 3:6"), 3, 9, at(c, "1@1 2@9 1:2 3:7,11"))
	checkTake(t, c, at(c, in+" 1:2 3:6"), 5, 9, at(c, "1@1 3@2 6@9 1:2 3:6"))
	// To a state in the one that is left, too.
	checkTake(t, c, at(c, in+" 1:2 3:6"), 7, 9, at(c, "1@9 2@9 1:3,7,11 3:7,11"))
	// States without a Past or a Deep are not remembered.
	c = of("p a p1 p1 p2 p2 p3 p3", "1>0")
	checkTake(t, c, at(c, "1@1 2@2 3@3 5@4 6@5"), 0, 9, at(c, "0@9"))
	checkTake(t, c, at(c, "1@1 2@2 3@3 5@4 6@5 7:1 2:4"), 0, 9, at(c, "0@9 7:1 2:4"))
}

// The first time a Past and a Deep lead to the Initial, behind that to what was left.
func TestTakeToPast(t *testing.T) {
	c := of(remembering, "0>4 0>5 0>8 0>9")
	checkTake(t, c, at(c, "0@1"), 0, 9, at(c, "1@9 2@9"))
	checkTake(t, c, at(c, "0@1"), 1, 9, at(c, "1@9 2@9"))
	checkTake(t, c, at(c, "0@1"), 2, 9, at(c, "1@9 3@9 6@9"))
	checkTake(t, c, at(c, "0@1"), 3, 9, at(c, "1@9 3@9 6@9"))
	was := " 1:3,7,11 3:7,11"
	checkTake(t, c, at(c, "0@1"+was), 0, 9, at(c, "1@9 3@9 6@9"+was))
	checkTake(t, c, at(c, "0@1"+was), 1, 9, at(c, "1@9 3@9 7@9 11@9"+was))
	checkTake(t, c, at(c, "0@1"+was), 2, 9, at(c, "1@9 3@9 7@9 10@9"+was))
	checkTake(t, c, at(c, "0@1"+was), 3, 9, at(c, "1@9 3@9 7@9 11@9"+was))
	was = " 1:2 3:7,11"
	checkTake(t, c, at(c, "0@1"+was), 0, 9, at(c, "1@9 2@9"+was))
	checkTake(t, c, at(c, "0@1"+was), 1, 9, at(c, "1@9 2@9"+was))
	checkTake(t, c, at(c, "0@1"+was), 3, 9, at(c, "1@9 3@9 7@9 11@9"+was))
}

// Behind other transitions: what is left by one leads another.
func TestTakeOneBehindAnother(t *testing.T) {
	c := of(remembering, "0>11 11>0 0>5 11>2 2>9 3>4 2>0 0>4")
	x := at(c, "0@1")
	for i, move := range []struct {
		trans int
		want  string
	}{
		{0, "1@10 3@10 7@10 11@10"},
		{1, "0@11 1:3,7,11 3:7,11"},
		{2, "1@12 3@12 7@12 11@12 1:3,7,11 3:7,11"},
		{3, "1@12 2@13 1:3,7,11 3:7,11"},
		{4, "1@12 3@14 7@14 11@14 1:3,7,11 3:7,11"},
		{5, "1@12 3@15 6@15 1:3,7,11 3:7,11"},
		{5, "1@12 3@16 6@16 1:3,7,11 3:6"},
	} {
		checkTake(t, c, x, move.trans, 10+i, at(c, move.want))
		x, _ = Take(c, x, move.trans, 10+i)
	}
	for _, trans := range []int{0, 1, 2, 3, 4, 6, 7} {
		checkTakeError(t, c, x, trans, api.ErrState)
	}
}

// A transition that leaves a state and enters it by its own Past or Deep in one step: what it is left in now leads, not what was told before.
func TestTakeOwnPast(t *testing.T) {
	c := of(remembering, "1>4 1>5 11>5 11>4 3>8 3>9 1>8 1>9")
	for _, before := range []string{"", " 1:2 3:6"} {
		in := at(c, "1@1 3@2 7@3 11@4"+before)
		all, three := " 1:3,7,11 3:7,11", " 3:7,11"
		if before != "" {
			three = " 1:2 3:7,11"
		}
		checkTake(t, c, in, 0, 9, at(c, "1@9 3@9 6@9"+all))
		checkTake(t, c, in, 1, 9, at(c, "1@9 3@9 7@9 11@9"+all))
		checkTake(t, c, in, 4, 9, at(c, "1@1 3@9 7@9 10@9"+three))
		checkTake(t, c, in, 5, 9, at(c, "1@1 3@9 7@9 11@9"+three))
		checkTake(t, c, in, 6, 9, at(c, "1@9 3@9 7@9 10@9"+all))
		checkTake(t, c, in, 7, 9, at(c, "1@9 3@9 7@9 11@9"+all))
		// From within, 1 is not left: what was told of it before leads.
		stays := "1@1 2@9"
		checkTake(t, c, in, 2, 9, at(c, stays+three))
		checkTake(t, c, in, 3, 9, at(c, stays+three))
	}
}

// Regions with a Past and a Deep each: the others begin anew.
func TestTakePastOfRegion(t *testing.T) {
	c := of("p a p1 p1 p2 p2 h2 p3 p3 d3", "1>0 0>6 0>9 5>6 5>9 5>4")
	in := "1@1 2@2 3@3 5@4 8@5"
	was := " 2:5 3:8"
	checkTake(t, c, at(c, in), 0, 9, at(c, "0@9"+was))
	checkTake(t, c, at(c, "0@1"+was), 1, 9, at(c, "1@9 2@9 5@9 3@9 7@9"+was))
	checkTake(t, c, at(c, "0@1"+was), 2, 9, at(c, "1@9 2@9 4@9 3@9 8@9"+was))
	// Within its region the Past leads to what was left before; to the other region all is left and remembered.
	checkTake(t, c, at(c, in+" 2:4"), 3, 9, at(c, "1@1 2@2 3@3 4@9 8@5 2:4"))
	checkTake(t, c, at(c, in), 4, 9, at(c, "1@9 2@9 3@9 4@9 8@9"+was))
	checkTake(t, c, at(c, in), 5, 9, at(c, "1@1 2@2 3@3 4@9 8@5"))
}

// As many states as there may be: the last ones are left and entered, too.
func TestTakeManyStates(t *testing.T) {
	c := of("p"+strings.Repeat(" p", api.MaxStates-3)+" d0 p0", "")
	last := api.MaxStates - 1
	c.Trans = []chart.Trans{{Kind: api.Auto, From: last, To: 1}, {Kind: api.Auto, From: 1, To: last - 1}, {Kind: api.Auto, From: 1, To: last - 2}}
	x := document(c, 0, last)
	want := at(c, "1@9 0:23")
	checkTake(t, c, x, 0, 9, want)
	checkTake(t, c, want, 1, 11, at(c, "0@11 23@11 0:23"))
	checkTake(t, c, want, 2, 11, at(c, "21@11 0:23"))
}

// An answer is no part of another, nor of what was handed in: what is done with it has no part in later ones.
func TestTakeApart(t *testing.T) {
	c := of(remembering, "11>0 6>7 11>11")
	for trans, text := range []string{"1@1 3@2 7@3 11@4 1:2 3:6", "1@1 3@2 6@3 1:2 3:6", "1@1 3@2 7@3 11@4"} {
		x := at(c, text)
		first, _ := Take(c, x, trans, 9)
		second, _ := Take(c, x, trans, 9)
		want := at(c, "0@9 1:3,7,11 3:7,11")
		switch trans {
		case 1:
			want = at(c, "1@1 3@2 7@9 10@9 1:2 3:6")
		case 2:
			want = at(c, "1@1 3@2 7@3 11@9")
		}
		wipe(x, nil)
		if !equal(first, want) || !equal(second, want) {
			t.Errorf("answers share memory with what is handed in: %+v, %+v", first, second)
		}
		wipe(first, nil)
		if !equal(second, want) {
			t.Errorf("answers share memory: %+v", second)
		}
	}
}
