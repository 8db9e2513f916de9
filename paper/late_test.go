package paper

import (
	"math"
	"slices"
	"testing"

	"imprimatur/api"
	"imprimatur/chart"
)

func TestLateNoTransition(t *testing.T) {
	c := of("p p", "5@0>1 9@0>1")
	for _, trans := range []int{math.MinInt, math.MinInt32, -256, -2, -1, 2, 3, 4, 5, 47, 48, 256, 1 << 32, math.MaxInt} {
		checkLateError(t, c, paperAt(c, "0@1", ""), trans, 9, api.ErrArg)
	}
	checkLate(t, c, paperAt(c, "0@1", ""), 0, 9, paperAt(c, "1@9", ""), 0)
	checkLate(t, c, paperAt(c, "0@1", ""), 1, 9, paperAt(c, "1@9", ""), 1)
	for _, c := range []chart.Chart{{}, of("p p", "")} {
		for _, trans := range []int{-1, 0, 1} {
			checkLateError(t, c, paperAt(of("p p", ""), "0@1", ""), trans, 9, api.ErrArg)
		}
	}
}

// An On and an Auto are none whose time comes.
func TestLateNoAfter(t *testing.T) {
	c := of("p p p", "go:0>1 go/write:0>1 5@0>1 1>2")
	checkLateError(t, c, paperAt(c, "0@1", ""), 0, 9, api.ErrArg)
	checkLateError(t, c, paperAt(c, "0@1", ""), 1, 9, api.ErrArg)
	checkLateError(t, c, paperAt(c, "1@1", ""), 3, 9, api.ErrArg)
	checkLate(t, c, paperAt(c, "0@1", ""), 2, 9, paperAt(c, "2@9", ""), 2, 3)
	for _, kind := range []int{math.MinInt, -9, 0, api.State, 12, 11 + 256, math.MaxInt} {
		c.Trans[2].Kind = kind
		checkLateError(t, c, paperAt(c, "0@1", ""), 2, 9, api.ErrArg)
	}
}

func TestLateNotThere(t *testing.T) {
	c := of("p p p1 p1 a p4 p4", "5@0>1 5@2>0 5@3>0 5@4>0 5@5>6 5@1>1")
	for _, doc := range []struct {
		stands string
		may    []int
	}{
		{"0@1", []int{0}},
		{"1@1 2@1", []int{1, 5}},
		{"1@1 3@1", []int{2, 5}},
		{"4@1 5@1 6@1", []int{3, 4}},
		{"0@1 1:2,3 4:5", []int{0}},
		{"", nil},
	} {
		for trans := range c.Trans {
			if !slices.Contains(doc.may, trans) {
				checkLateError(t, c, paperAt(c, doc.stands, ""), trans, 9, api.ErrState)
			} else if _, taken, err := Late(c, paperAt(c, doc.stands, ""), trans, 9); err != nil || !slices.Equal(taken, []int{trans}) {
				t.Errorf("in %q %d is taken as %v, %v", doc.stands, trans, taken, err)
			}
		}
	}
}

// Done stays as it was: nobody did it.
func TestLateDone(t *testing.T) {
	c := of("p p p", "5@0>1 1>2 go/write:0>1")
	for _, done := range []string{"", "write=ann", "write=ann check=bob write=ann", "write="} {
		checkLate(t, c, paperAt(c, "0@1", done), 0, 9, paperAt(c, "2@9", done), 0, 1)
	}
	// Not even that of an After that has a task, which no valid chart has.
	c.Trans[0].Task = "check"
	checkLate(t, c, paperAt(c, "0@1", "write="), 0, 9, paperAt(c, "2@9", "write="), 0, 1)
}

// The transition comes first, those that go by themselves behind it, in their order.
func TestLateTakes(t *testing.T) {
	c := of("p p p p", "2>3 5@0>1 1>2 5@3>0")
	checkLate(t, c, paperAt(c, "0@1", "pay=bob"), 1, 9, paperAt(c, "3@9", "pay=bob"), 1, 2, 0)
	checkLate(t, c, paperAt(c, "3@1", ""), 3, 9, paperAt(c, "0@9", ""), 3)
	c = of("p p0 p0 h0 p p2 p2", "5@1>2 0>4 5>6 7@4>3 5@0>0")
	checkLate(t, c, paperAt(c, "0@1 1@2", ""), 0, 9, paperAt(c, "4@9 0:2,6", ""), 0, 2, 1)
	c = of("a p0 p0 p1 p1 p2 p2", "5@3>4 5>6")
	checkLate(t, c, paperAt(c, "0@1 1@2 2@3 3@4 5@5", ""), 0, 9, paperAt(c, "0@1 1@2 2@3 4@9 6@9", ""), 0, 1)
	checkLate(t, c, paperAt(c, "0@1 1@2 2@3 3@4 6@5", ""), 0, 9, paperAt(c, "0@1 1@2 2@3 4@9 6@5", ""), 0)
	c = of("p p p1 p1 h1 d1 p3 p3", "5@0>4 5@0>5 7>0")
	checkLate(t, c, paperAt(c, "0@1 1:3,6", ""), 0, 9, paperAt(c, "1@9 3@9 6@9 1:3,6", ""), 0)
	checkLate(t, c, paperAt(c, "0@1 1:3,7", ""), 1, 9, paperAt(c, "0@9 1:3,7", ""), 1, 2)
}

func TestLateLoop(t *testing.T) {
	for _, transitions := range []string{"5@0>1 1>1", "5@0>1 1>2 2>1", "5@0>1 1>0 0>1"} {
		c := of("p p p", transitions)
		checkLateError(t, c, paperAt(c, "0@1", "write=ann"), 0, 9, api.ErrLoop)
	}
	for n := 2; n <= api.MaxStates; n++ {
		c := line(n)
		c.Trans[0].Kind, c.Trans[0].Time = api.After, 5
		if n-2 > api.MaxMicro {
			checkLateError(t, c, paperAt(c, "0@1", ""), 0, 9, api.ErrLoop)
			continue
		}
		want := paperAt(c, "", "")
		want.At.Set, want.At.Since[n-1] = 1<<(n-1), 9
		checkLate(t, c, paperAt(c, "0@1", ""), 0, 9, want, upTo(n-1)...)
	}
}

// The time is taken as it is: whether the transition is due by then is not asked here.
func TestLateNow(t *testing.T) {
	c := of("p p p", "5@0>1 1>2")
	for _, now := range []int{math.MinInt, -api.MaxTime, -1, 0, 1, 104, 105, 106, api.MaxTime, api.MaxTime + 1, math.MaxInt} {
		want := paperAt(c, "2@0", "")
		want.At.Since[2] = now
		checkLate(t, c, paperAt(c, "0@100", ""), 0, now, want, 0, 1)
	}
}

// Two errors at a time: the one that comes first is told.
func TestLateOrderOfErrors(t *testing.T) {
	c := of("p p p", "5@1>0 5@0>2 go:0>0 go:1>0 go:0>2 5@1>2 2>2")
	p := paperAt(c, "0@1", "")
	for trans, want := range []error{api.ErrState, api.ErrLoop, api.ErrArg, api.ErrArg, api.ErrArg, api.ErrState, api.ErrArg, api.ErrArg} {
		checkLateError(t, c, p, trans, 9, want)
	}
}

// What one answer is changed to changes no other one, nor the document that was handed in.
func TestLateApart(t *testing.T) {
	c := of("p p0 p0 h0 p", "5@0>4")
	start := paperAt(c, "0@1 2@2", "write=ann check=bob")
	first, taken, _ := Late(c, start, 0, 6)
	second, others, _ := Late(c, start, 0, 7)
	wipe(start, nil)
	if !equal(first, paperAt(c, "4@6 0:2", "write=ann check=bob")) {
		t.Errorf("an answer shares memory with what is handed in: %+v", first)
	}
	wipe(first, taken)
	if !equal(second, paperAt(c, "4@7 0:2", "write=ann check=bob")) || !slices.Equal(others, []int{0}) {
		t.Errorf("answers share memory: %+v, %v", second, others)
	}
}
