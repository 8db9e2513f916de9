package step

import (
	"math"
	"slices"
	"strconv"
	"strings"
	"testing"

	"imprimatur/api"
	"imprimatur/chart"
	"imprimatur/shape"
)

func TestRunNoAuto(t *testing.T) {
	// No transitions; others than an Auto; none from where the document stands; an On without an event is none either.
	for _, transitions := range []string{"", "go:0>1 5@0>1", "1>0 2>0"} {
		c := of("p p p1 p1 h1", transitions)
		checkRun(t, c, at(c, "0@3 1:2"), 9, at(c, "0@3 1:2"))
	}
	c := of("p p", "go:0>1")
	c.Trans[0].Event = ""
	checkRun(t, c, at(c, "0@3"), 9, at(c, "0@3"))
}

func TestRunOneBehindAnother(t *testing.T) {
	c := of("p p p p p", "2>3 go:3>4 0>1 4>0 1>2 5@3>0")
	checkRun(t, c, at(c, "0@3"), 9, at(c, "3@9"), 2, 4, 0)
	checkRun(t, c, at(c, "1@3"), 9, at(c, "3@9"), 4, 0)
	checkRun(t, c, at(c, "2@3"), 9, at(c, "3@9"), 0)
	checkRun(t, c, at(c, "3@3"), 9, at(c, "3@3"))
	checkRun(t, c, at(c, "4@3"), 9, at(c, "3@9"), 3, 2, 4, 0)
}

// Of several the innermost goes first, of equal ones the first of the chart; then all is asked anew.
func TestRunFirst(t *testing.T) {
	c := of("p p p p", "0>2 0>1 1>3 2>3")
	checkRun(t, c, at(c, "0@3"), 9, at(c, "3@9"), 0, 3)
	c = of("p p p p", "0>1 0>2 1>3 2>3")
	checkRun(t, c, at(c, "0@3"), 9, at(c, "3@9"), 0, 2)
	// 2 goes first, though 1's stands first; it leads to where 1's goes.
	c = of("p p p1 p1 p0", "1>0 2>3")
	checkRun(t, c, at(c, "1@3 2@4"), 9, at(c, "0@9 4@9"), 1, 0)
	// The innermost leads out: the other is not taken any more.
	c = of("p p p1 p", "1>0 2>3")
	checkRun(t, c, at(c, "1@3 2@4"), 9, at(c, "3@9"), 1)
	// One that is taken makes an inner one go ahead of one that stood there already.
	c = of("a p0 p0 p1 p1 p2 p2 p6 p6", "3>4 7>8 5>6")
	checkRun(t, c, at(c, "0@1 1@1 2@1 3@1 5@1"), 9, at(c, "0@1 1@1 2@1 4@9 6@9 8@9"), 0, 2, 1)
	c = of("a p0 p0 p1 p1 p2 p2 p6 p6", "5>6 7>8 3>4")
	checkRun(t, c, at(c, "0@1 1@1 2@1 3@1 5@1"), 9, at(c, "0@1 1@1 2@1 4@9 6@9 8@9"), 0, 1, 2)
}

// What the first leaves is remembered for those behind it.
func TestRunRemembers(t *testing.T) {
	c := of(remembering, "11>0")
	checkRun(t, c, at(c, "1@1 3@1 7@1 11@1 1:2"), 9, at(c, "0@9 1:3,7,11 3:7,11"), 0)
	c = of("p p p1 p1 h1 p3 p3", "0>4 6>0")
	checkRun(t, c, at(c, "1@1 3@1 6@1"), 9, at(c, "1@9 3@9 5@9 1:3,6"), 1, 0)
	c = of("p p p1 p1 d1 p3 p3 p", "0>4 5>0 go:0>6")
	checkRun(t, c, at(c, "0@1 1:3,6"), 9, at(c, "1@9 3@9 6@9 1:3,6"), 0)
}

// line returns a chart of n states, with an Auto from each to the next one.
func line(n int) chart.Chart {
	var words []string
	for i := range n - 1 {
		words = append(words, strconv.Itoa(i)+">"+strconv.Itoa(i+1))
	}
	return of(strings.Repeat("p ", n), strings.Join(words, " "))
}

func upTo(n int) []int {
	var l []int
	for i := range n {
		l = append(l, i)
	}
	return l
}

// As many as MaxMicro and no more.
func TestRunLimit(t *testing.T) {
	for n := 1; n <= api.MaxStates; n++ {
		c := line(n)
		for from := range n {
			x, many := document(c, from), n-1-from
			if many > api.MaxMicro {
				checkRunError(t, c, x)
				continue
			}
			want := x
			if many > 0 {
				want = at(c, strconv.Itoa(n-1)+"@9")
			}
			checkRun(t, c, x, 9, want, upTo(n - 1)[from:]...)
		}
	}
}

// Those of all regions count: 9 of one and 7 of the other are as many as may be.
func TestRunLimitOfRegions(t *testing.T) {
	states := "a p0 p0" + strings.Repeat(" p1", 10) + strings.Repeat(" p2", 10)
	var words []string
	for i := range 9 {
		words = append(words, strconv.Itoa(3+i)+">"+strconv.Itoa(4+i))
	}
	for i := range 7 {
		words = append(words, strconv.Itoa(13+i)+">"+strconv.Itoa(14+i))
	}
	c := of(states, strings.Join(words, " "))
	x := at(c, "0@1 1@1 2@1 3@1 13@1")
	checkRun(t, c, x, 9, at(c, "0@1 1@1 2@1 12@9 20@9"), upTo(16)...)
	checkRunError(t, of(states, strings.Join(words, " ")+" 20>21"), x)
	checkRunError(t, of(states, "20>21 "+strings.Join(words, " ")), x)
	// From one on, one more may be.
	c = of(states, strings.Join(words, " ")+" 20>21")
	checkRun(t, c, at(c, "0@1 1@1 2@1 4@1 13@1"), 9, at(c, "0@1 1@1 2@1 12@9 21@9"), upTo(17)[1:]...)
}

func TestRunNoEnd(t *testing.T) {
	for _, test := range []struct {
		states, transitions string
		in                  []int
	}{
		{"p", "0>0", []int{0}},
		{"p p", "0>1 1>0", []int{0}},
		{"p p", "0>1 1>0", []int{1}},
		{"p p p", "0>1 1>2 2>1", []int{0}},
		{"p p0", "0>1", []int{0, 1}},
		{"p p0", "1>0", []int{0, 1}},
		{"p p0 h0", "1>2", []int{0, 1}},
		{"p p0 p0 d0", "2>3 1>2", []int{0, 2}},
		{"a p0 p0", "1>2", []int{0, 1, 2}},
		{"a p0 p0 p1 p1", "3>4 2>2", []int{0, 1, 2, 3}},
	} {
		c := of(test.states, test.transitions)
		checkRunError(t, c, document(c, test.in...))
	}
	// A Past and a Deep lead to where the state was left: there a circle may end.
	for _, kid := range []string{"h0", "d0"} {
		c := of("p p0 p0 "+kid, "2>3")
		checkRun(t, c, at(c, "0@1 2@1 0:1"), 9, at(c, "0@1 1@9 0:1"), 0)
		checkRunError(t, c, at(c, "0@1 2@1 0:2"))
	}
}

// Every state that a Run enters is there since now, be that what it is; the others stay.
func TestRunNow(t *testing.T) {
	c := of("a p0 p0 p1 p1 p1 p2 p2", "3>4 4>5")
	for _, now := range []int{math.MinInt, -2, -1, 0, 1, 99, 103, api.MaxTime, api.MaxTime + 1, math.MaxInt} {
		want := document(c, 0, 1, 2, 5, 7)
		want.Since[5] = now
		checkRun(t, c, document(c, 0, 1, 2, 3, 7), now, want, 0, 1)
		want = document(c, 0, 1, 2, 5, 7)
		checkRun(t, c, document(c, 0, 1, 2, 5, 7), now, want)
	}
}

// An answer of Run is no part of what was handed in, though no transition was taken.
func TestRunApart(t *testing.T) {
	for _, c := range []chart.Chart{of("p p0 p0 h0", "2>2"), of("p p0 p0 h0", "1>2")} {
		x := at(c, "0@3 1@4 0:2")
		want := at(c, "0@3 1@4 0:2")
		if c.Trans[0].From == 1 {
			want = at(c, "0@3 2@9 0:2")
		}
		first, l, _ := Run(c, x, 9)
		second, m, _ := Run(c, x, 9)
		wipe(x, nil)
		if !equal(first, want) || !equal(second, want) {
			t.Errorf("answers share memory with what is handed in: %+v, %+v", first, second)
		}
		wipe(first, l)
		if !equal(second, want) || len(m) == 1 && m[0] != 0 {
			t.Errorf("answers share memory: %+v, %v", second, m)
		}
	}
}

func TestBegin(t *testing.T) {
	c := of("p", "")
	checkBegin(t, c, 0, Config{Set: 1, Past: make([]uint32, 1), Since: make([]int, 1)})
	checkBegin(t, c, 9, at(c, "0@9"))
	c = of("a", "go:0>0")
	checkBegin(t, c, 9, at(c, "0@9"))
	c = of("p a0 p0 p1 p1 p4 p4 h4", "go:0>2 5@1>2 2>0")
	checkBegin(t, c, 9, at(c, "0@9 1@9 3@9 4@9 5@9"))
	// The first state is the first one that a document may be in.
	c = of("p h0 d0 p0 p0 p", "")
	checkBegin(t, c, 9, at(c, "0@9 3@9"))
}

func TestBeginNow(t *testing.T) {
	c := of("p p0 p p2", "1>3 go:3>0")
	for _, now := range []int{math.MinInt, -api.MaxTime, -1, 0, 1, api.MaxTime, api.MaxTime + 1, math.MaxInt} {
		want := document(c, 2, 3)
		want.Since[2], want.Since[3] = now, now
		checkBegin(t, c, now, want, 0)
	}
}

// Begin runs on: with the transitions taken, what they remember, and the error of too many.
func TestBeginRuns(t *testing.T) {
	c := of("p p0 p0 d0 p p4", "1>2 2>5")
	checkBegin(t, c, 9, at(c, "4@9 5@9 0:2"), 0, 1)
	for n := 1; n <= api.MaxStates; n++ {
		c := line(n)
		if n-1 > api.MaxMicro {
			checkBeginError(t, c, api.ErrLoop)
			continue
		}
		checkBegin(t, c, 9, at(c, strconv.Itoa(n-1)+"@9"), upTo(n-1)...)
	}
	checkBeginError(t, of("p", "0>0"), api.ErrLoop)
	checkBeginError(t, of("p p", "0>1 1>0"), api.ErrLoop)
	// A circle that the document doesn't come to.
	c = of("p p p", "1>2 2>1")
	checkBegin(t, c, 9, at(c, "0@9"))
}

// whole returns a valid chart with states and transitions of all kinds, that have each field they may.
func whole() chart.Chart {
	c := of("p p p1 p1 h1 d1 a", "go:0>1 2>3 5@1>4 stop:3>5")
	c.Trans[0].Perm, c.Trans[0].Task = "write", "send"
	return c
}

func TestBeginNotValid(t *testing.T) {
	checkBegin(t, whole(), 9, at(whole(), "0@9"))
	for i, change := range []func(c *chart.Chart){
		func(c *chart.Chart) { *c = chart.Chart{} },
		func(c *chart.Chart) { c.Names = nil },
		func(c *chart.Chart) { c.Names = c.Names[:6] },
		func(c *chart.Chart) { c.Names = c.Names[:8] },
		func(c *chart.Chart) { c.Names[6] = c.Names[0] },
		func(c *chart.Chart) { c.Names[0] = "" },
		func(c *chart.Chart) { c.Names[3] = "S 3" },
		func(c *chart.Chart) { c.Names[3] = strings.Repeat("a", api.MaxName+1) },
		func(c *chart.Chart) { c.Shape = shape.Shape{} },
		func(c *chart.Chart) { c.Shape.Kinds = c.Shape.Kinds[:6] },
		func(c *chart.Chart) { c.Shape.Parents = c.Shape.Parents[:6] },
		func(c *chart.Chart) { c.Shape.Kinds[6] = 0 },
		func(c *chart.Chart) { c.Shape.Kinds[6] = 5 },
		func(c *chart.Chart) { c.Shape.Kinds[6] = api.Past },
		func(c *chart.Chart) { c.Shape.Kinds[1] = api.All },
		func(c *chart.Chart) { c.Shape.Parents[6] = 6 },
		func(c *chart.Chart) { c.Shape.Parents[6] = -2 },
		func(c *chart.Chart) { c.Shape.Parents[6] = 4 },
		func(c *chart.Chart) { c.Shape.Kinds[2], c.Shape.Kinds[3] = api.Past, api.Deep },
		func(c *chart.Chart) { c.Trans = slices.Repeat(c.Trans[:1], api.MaxTrans+1) },
		func(c *chart.Chart) { c.Trans[0].Kind = 0 },
		func(c *chart.Chart) { c.Trans[0].Kind = 12 },
		func(c *chart.Chart) { c.Trans[0].Event = "" },
		func(c *chart.Chart) { c.Trans[0].Perm = "Write" },
		func(c *chart.Chart) { c.Trans[0].Task = "Send" },
		func(c *chart.Chart) { c.Trans[0].Time = 1 },
		func(c *chart.Chart) { c.Trans[1].Event = "go" },
		func(c *chart.Chart) { c.Trans[1].Perm = "go" },
		func(c *chart.Chart) { c.Trans[1].Task = "go" },
		func(c *chart.Chart) { c.Trans[1].Time = 1 },
		func(c *chart.Chart) { c.Trans[2].Time = 0 },
		func(c *chart.Chart) { c.Trans[2].Time = -1 },
		func(c *chart.Chart) { c.Trans[2].Time = api.MaxTime + 1 },
		func(c *chart.Chart) { c.Trans[2].Event = "go" },
		func(c *chart.Chart) { c.Trans[3].From = -1 },
		func(c *chart.Chart) { c.Trans[3].From = 7 },
		func(c *chart.Chart) { c.Trans[3].From = 4 },
		func(c *chart.Chart) { c.Trans[3].From = 5 },
		func(c *chart.Chart) { c.Trans[3].To = -1 },
		func(c *chart.Chart) { c.Trans[3].To = 7 },
	} {
		c := whole()
		change(&c)
		if chart.Valid(c) {
			t.Errorf("change %d: the chart is valid", i)
		}
		checkBeginError(t, c, api.ErrArg)
		// ErrArg comes ahead of ErrLoop.
		c.Trans = append(slices.Clone(c.Trans), chart.Trans{Kind: api.Auto})
		checkBeginError(t, c, api.ErrArg)
	}
	// As many transitions as there may be are valid.
	c := whole()
	c.Trans = slices.Repeat(c.Trans[:1], api.MaxTrans)
	checkBegin(t, c, 9, at(c, "0@9"))
	c.Trans[api.MaxTrans-1] = chart.Trans{Kind: api.Auto, To: 6}
	checkBegin(t, c, 9, at(c, "6@9"), api.MaxTrans-1)
}
