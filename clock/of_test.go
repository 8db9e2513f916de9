package clock

import (
	"math"
	"slices"
	"strings"
	"testing"

	"imprimatur/api"
	"imprimatur/chart"
	"imprimatur/policy"
	"imprimatur/step"
)

func TestOfNoTransitions(t *testing.T) {
	c := of("p p", "")
	checkOf(t, c, at(c, "0@5"), "a")
	c.Trans = nil
	checkOf(t, c, at(c, "0@5"), "a")
	checkOf(t, chart.Chart{}, step.Config{}, "")
}

func TestOfNoneDue(t *testing.T) {
	c := of("p p p", "go:0>1 0>2 5@1>0 7@2>0")
	checkOf(t, c, at(c, "0@5"), "a")
	checkOf(t, c, at(c, ""), "a")
}

// Where a transition leads to has no part in it, nor has what the states were left in.
func TestOfFrom(t *testing.T) {
	c := of("p p p p0", "5@0>1 6@1>2 7@2>0 8@1>1 9@3>0")
	checkOf(t, c, at(c, "0@100 3@100"), "a", Due{105, "a", 0}, Due{109, "a", 4})
	checkOf(t, c, at(c, "1@100"), "a", Due{106, "a", 1}, Due{108, "a", 3})
	checkOf(t, c, at(c, "2@100"), "a", Due{107, "a", 2})
	x := at(c, "2@100")
	x.Past[0], x.Past[1] = 1<<3, 1<<2
	checkOf(t, c, x, "a", Due{107, "a", 2})
	x.Past = nil
	checkOf(t, c, x, "a", Due{107, "a", 2})
	// A Since of a state that the document isn't in counts for nothing.
	x.Since[0], x.Since[1], x.Since[3] = 1, 2, 3
	checkOf(t, c, x, "a", Due{107, "a", 2})
}

// A time is nothing that makes another kind due.
func TestOfOtherKinds(t *testing.T) {
	c := of("p p", "go:0>1 0>1 5@0>1 stop:0>0 0>0")
	checkOf(t, c, at(c, "0@1"), "a", Due{6, "a", 2})
	for i := range c.Trans {
		c.Trans[i].Time = 5
	}
	checkOf(t, c, at(c, "0@1"), "a", Due{6, "a", 2})
	for _, kind := range []int{math.MinInt, -11, 0, 1, 8, api.On, api.Auto, 12, 11 + 256, 11 + 1<<32, math.MaxInt} {
		c.Trans[2].Kind = kind
		checkOf(t, c, at(c, "0@1"), "a")
	}
	// What else is written at an After changes nothing.
	c.Trans[2] = chart.Trans{Kind: api.After, From: 0, To: 1, Time: 5, Event: "go", Perm: "write", Task: "send"}
	checkOf(t, c, at(c, "0@1"), "a", Due{6, "a", 2})
}

func TestOfSeveralSince(t *testing.T) {
	c := of("a p0 p0 p1 p2 p", "10@0>5 10@1>5 10@2>5 10@3>5 10@4>5 10@5>0")
	checkOf(t, c, at(c, "0@7 1@3 2@7 3@3 4@5"), "a", Due{13, "a", 1}, Due{13, "a", 3}, Due{15, "a", 4}, Due{17, "a", 0}, Due{17, "a", 2})
	checkOf(t, c, at(c, "5@0"), "a", Due{10, "a", 5})
	// Earlier since, later due.
	c = of("a p0 p0", "1@2>0 30@1>0 9@0>0")
	checkOf(t, c, at(c, "0@20 1@1 2@29"), "a", Due{29, "a", 2}, Due{30, "a", 0}, Due{31, "a", 1})
}

func TestOfOneState(t *testing.T) {
	c := of("p p", "9@0>1 5@0>1 9@0>0 5@0>0 1@0>1 9@0>1")
	checkOf(t, c, at(c, "0@100"), "a", Due{101, "a", 4}, Due{105, "a", 1}, Due{105, "a", 3}, Due{109, "a", 0}, Due{109, "a", 2}, Due{109, "a", 5})
}

// The number is that of all transitions of the chart, whatever kinds stand between.
func TestOfNumber(t *testing.T) {
	c := of("p p", strings.Repeat("go:0>1 ", 11)+"0>1 4@1>0 3@0>1 "+strings.Repeat("0>0 ", 33)+"2@0>1")
	checkOf(t, c, at(c, "0@0"), "a", Due{2, "a", 47}, Due{3, "a", 13})
	checkOf(t, c, at(c, "1@0"), "a", Due{4, "a", 12})
}

func TestOfAllTransitions(t *testing.T) {
	c := of("p", strings.Repeat("3@0>0 ", api.MaxTrans))
	var want []Due
	for i := range api.MaxTrans {
		want = append(want, Due{4, "a", i})
	}
	checkOf(t, c, at(c, "0@1"), "a", want...)
	// The last one is the first one.
	for i := range c.Trans {
		c.Trans[i].Time = 100 - i
		want[i].Time = 101 - i
	}
	slices.Reverse(want)
	checkOf(t, c, at(c, "0@1"), "a", want...)
}

func TestOfDoc(t *testing.T) {
	c := of("p p", "9@0>1 5@0>1")
	for _, doc := range []string{"", "a", "A", "letter12", " ", "\x00", "\xff\xfe", "é", strings.Repeat("x", 5000)} {
		checkOf(t, c, at(c, "0@0"), doc, Due{5, doc, 1}, Due{9, doc, 0})
	}
}

func TestOfLastState(t *testing.T) {
	c := of("a"+strings.Repeat(" p0", api.MaxStates-1), "2@23>0 3@22>0 4@0>0")
	checkOf(t, c, at(c, "0@1 22@1 23@1"), "a", Due{3, "a", 0}, Due{4, "a", 1}, Due{5, "a", 2})
	checkOf(t, c, at(c, "0@1 23@1"), "a", Due{3, "a", 0}, Due{5, "a", 2})
	checkOf(t, c, at(c, "22@1"), "a", Due{4, "a", 1})
}

func TestOfEndOfTime(t *testing.T) {
	for _, test := range []struct {
		since, time int
		due         bool
	}{
		{0, api.MaxTime, true},
		{1, api.MaxTime - 1, true},
		{api.MaxTime - 1, 1, true},
		{api.MaxTime / 2, api.MaxTime / 2, true},
		{1, api.MaxTime, false},
		{api.MaxTime, 1, false},
		{api.MaxTime - 1, 2, false},
		{2, api.MaxTime - 1, false},
		{api.MaxTime/2 + 1, api.MaxTime / 2, false},
		{api.MaxTime, api.MaxTime, false},
		{math.MaxInt, 1, false},
		{math.MaxInt, api.MaxTime, false},
		{math.MaxInt - 1, 1, false},
		{math.MaxInt - api.MaxTime + 1, api.MaxTime, false},
		{1, math.MaxInt, false},
		{api.MaxTime, math.MaxInt, false},
		{math.MaxInt, math.MaxInt, false},
		{-1, api.MaxTime, true},
		{-1, 1, true},
		{-api.MaxTime, 1, true},
		{math.MinInt, 1, true},
		{math.MinInt, api.MaxTime, true},
		{math.MinInt, math.MaxInt, true},
	} {
		c := of("p p", "1@0>1")
		c.Trans[0].Time = test.time
		x := at(c, "0@0")
		x.Since[0] = test.since
		if test.due {
			checkOf(t, c, x, "a", Due{test.since + test.time, "a", 0})
		} else {
			checkOf(t, c, x, "a")
		}
	}
}

// One that is beyond the end of time leaves the others as they are.
func TestOfEndOfTimeAmong(t *testing.T) {
	c := of("a p0 p0", "9@1>0 1@1>0 2@1>0 1073741824@2>0 1@0>0 3@1>0")
	x := at(c, "0@4 1@1073741822 2@0")
	checkOf(t, c, x, "a", Due{5, "a", 4}, Due{api.MaxTime - 1, "a", 1}, Due{api.MaxTime, "a", 2}, Due{api.MaxTime, "a", 3})
	x.Since[1] = math.MaxInt
	checkOf(t, c, x, "a", Due{5, "a", 4}, Due{api.MaxTime, "a", 3})
}

// Of takes any numbers, and is due what the sum says; one that no int holds is told by none.
func TestOfOddTimes(t *testing.T) {
	c := of("p p", "1@0>1 1@0>1 1@0>1 1@0>1 1@0>1")
	for i, time := range []int{0, -1, -100, math.MinInt, math.MinInt + 7} {
		c.Trans[i].Time = time
	}
	checkOf(t, c, at(c, "0@7"), "a", Due{math.MinInt + 7, "a", 3}, Due{math.MinInt + 14, "a", 4}, Due{-93, "a", 2}, Due{6, "a", 1}, Due{7, "a", 0})
	checkOf(t, c, at(c, "0@-8"), "a", Due{-108, "a", 2}, Due{-9, "a", 1}, Due{-8, "a", 0})
	checkOf(t, c, at(c, "0@1073741825"), "a", Due{math.MinInt + api.MaxTime + 1, "a", 3}, Due{math.MinInt + api.MaxTime + 8, "a", 4}, Due{api.MaxTime - 99, "a", 2}, Due{api.MaxTime, "a", 1})
}

// What is no state is in no set, whatever the set's bits are (R8).
func TestOfNoStates(t *testing.T) {
	c := of("p p", "5@0>1 6@1>0")
	x := at(c, "0@1 1@1")
	x.Set = math.MaxUint32
	for _, from := range []int{-1, -2, -32, -64, math.MinInt, 2, 3, 23, 24, 30, 31, 32, 33, 63, 64, 65, 1 << 32, math.MaxInt} {
		c.Trans[0].From = from
		checkOf(t, c, x, "a", Due{7, "a", 1})
	}
	// It ends, too, where the Config is none of a document.
	x.Since = nil
	checkOf(t, c, x, "a")
	checkOf(t, c, step.Config{Set: math.MaxUint32}, "a")
	// There is no state with a bit of its own beyond the set's bits.
	c.Trans[0].From = 40
	x.Since = make([]int, 50)
	checkOf(t, c, x, "a", Due{6, "a", 1})
}

// A document on its way: a state that is entered again begins its time again, one that stays keeps it.
func TestOfOnItsWay(t *testing.T) {
	l, err := policy.Parse("state draft plain\nstate check all\nstate law plain in check\nstate read plain in law\nstate judge plain in law\nstate money plain in check\n" +
		"after 50 from money to draft\non send from draft to check\nafter 5 from read to judge\nafter 10 from check to draft\non next from read to judge\nafter 5 from judge to read\nafter 999999999 from draft to check\n")
	if err != nil {
		t.Fatal(err)
	}
	c, err := chart.Compile(l)
	if err != nil {
		t.Fatal(err)
	}
	x, _, err := step.Begin(c, 20)
	if err != nil {
		t.Fatal(err)
	}
	take := func(trans, now int) {
		if x, err = step.Take(c, x, trans, now); err != nil {
			t.Fatal(err)
		}
	}
	checkOf(t, c, x, "plan", Due{20 + 999999999, "plan", 6})
	take(1, 30)
	checkOf(t, c, x, "plan", Due{35, "plan", 2}, Due{40, "plan", 3}, Due{80, "plan", 0})
	take(2, 35)
	checkOf(t, c, x, "plan", Due{40, "plan", 3}, Due{40, "plan", 5}, Due{80, "plan", 0})
	take(5, 38)
	checkOf(t, c, x, "plan", Due{40, "plan", 3}, Due{43, "plan", 2}, Due{80, "plan", 0})
	take(3, 40)
	checkOf(t, c, x, "plan", Due{40 + 999999999, "plan", 6})
	take(1, 50)
	take(3, api.MaxTime-999999999)
	checkOf(t, c, x, "plan", Due{api.MaxTime, "plan", 6})
	take(6, api.MaxTime-4)
	// The time of all others is beyond the end of time.
	checkOf(t, c, x, "plan")
	// As is that of one which begins one too late.
	take(3, api.MaxTime-999999998)
	checkOf(t, c, x, "plan")
}
