package paper

import (
	"math"
	"strings"
	"testing"

	"imprimatur/api"
	"imprimatur/chart"
)

func TestExample(t *testing.T) {
	c := of("p p0 p0 p", "")
	p, taken, err := New(c, "letter", 7)
	if err != nil || len(taken) != 0 {
		t.Errorf("New is %+v, %v, %v", p, taken, err)
	}
	checkStates(t, c, p, "s0", "s1")
}

// notNames are texts that are no names.
func notNames() []string {
	return []string{"", " ", "A", "a b", " a", "a ", "a#", "a.b", "a/b", "\x00", "\n", "\x7f", "\u00e9", "\xff", "letteR", strings.Repeat("x", api.MaxName+1), strings.Repeat("x", 100000)}
}

func names() []string {
	return []string{"a", "z", "0", "9", "_", "-", "letter", "a-b_0", "plain", "in", strings.Repeat("x", api.MaxName-1), strings.Repeat("x", api.MaxName)}
}

func TestNewName(t *testing.T) {
	c := of("p p", "")
	for _, name := range notNames() {
		checkNewError(t, c, name, 5, api.ErrArg)
	}
	for _, name := range names() {
		checkNew(t, c, name, 5, paperAt(c, "0@5", ""))
	}
}

func TestNewTime(t *testing.T) {
	c := of("p p p0 p0", "")
	for _, now := range []int{math.MinInt, math.MinInt32, -api.MaxTime, -2, -1, api.MaxTime + 1, api.MaxTime + 2, 1 << 31, 1 << 32, math.MaxInt} {
		checkNewError(t, c, "letter", now, api.ErrArg)
		for _, name := range notNames() {
			checkNewError(t, c, name, now, api.ErrArg)
		}
	}
	for _, now := range []int{0, 1, 2, 100, api.MaxTime - 1, api.MaxTime} {
		want := paperAt(c, "0@0 2@0", "")
		want.At.Since[0], want.At.Since[2] = now, now
		checkNew(t, c, "letter", now, want)
	}
}

// A document begins in the first states, and nothing was left or done yet.
func TestNewStands(t *testing.T) {
	for _, test := range []struct{ states, stands string }{
		{"p", "0@5"},
		{"p p p", "0@5"},
		{"a", "0@5"},
		{"p p0 p0 p1 p1", "0@5 1@5 3@5"},
		{"p h0 d0 p0 p0", "0@5 3@5"},
		{"a p0 p0 p1 p1 p2 p2", "0@5 1@5 2@5 3@5 5@5"},
		{"p a0 p1 p1 p3 p3 p", "0@5 1@5 2@5 3@5 4@5"},
	} {
		c := of(test.states, "go/write:0>0")
		checkNew(t, c, "letter", 5, paperAt(c, test.stands, ""))
	}
}

// Transitions that go by themselves are taken at the beginning, and told in their order; no others are.
func TestNewTakes(t *testing.T) {
	c := of("p p p p", "1>2 0>1 go:2>3 5@2>3 3>0")
	checkNew(t, c, "letter", 5, paperAt(c, "2@5", ""), 1, 0)
	c = of("p p p p", "0>2 0>1 1>3 2>3")
	checkNew(t, c, "letter", 5, paperAt(c, "3@5", ""), 0, 3)
	// The innermost goes first, and what it leaves is remembered.
	c = of("p p0 p0 h0 p", "0>4 1>2")
	checkNew(t, c, "letter", 5, paperAt(c, "4@5 0:2", ""), 1, 0)
	// Side by side.
	c = of("a p0 p0 p1 p1 p2 p2", "5>6 3>4")
	checkNew(t, c, "letter", 5, paperAt(c, "0@5 1@5 2@5 4@5 6@5", ""), 0, 1)
	// None goes by itself from where the document begins.
	c = of("p p", "1>0 go:0>1 1@0>1")
	checkNew(t, c, "letter", 5, paperAt(c, "0@5", ""))
}

// line returns a chart of n states, with an Auto from each to the next one.
func line(n int) chart.Chart {
	c := of(strings.Repeat("p ", n), "")
	for i := range n - 1 {
		c.Trans = append(c.Trans, chart.Trans{Kind: api.Auto, From: i, To: i + 1})
	}
	return spread(c)
}

func upTo(n int) []int {
	var l []int
	for i := range n {
		l = append(l, i)
	}
	return l
}

func TestNewLoop(t *testing.T) {
	for n := 1; n <= api.MaxStates; n++ {
		c := line(n)
		if n-1 > api.MaxMicro {
			checkNewError(t, c, "letter", 5, api.ErrLoop)
			continue
		}
		want := paperAt(c, "", "")
		want.At.Set, want.At.Since[n-1] = 1<<(n-1), 5
		checkNew(t, c, "letter", 5, want, upTo(n-1)...)
	}
	for _, transitions := range []string{"0>0", "0>1 1>0", "0>1 1>2 2>1"} {
		checkNewError(t, of("p p p", transitions), "letter", 5, api.ErrLoop)
	}
	// Where the loop is not at the beginning, it is none of New's.
	c := of("p p", "1>1 go:0>1")
	checkNew(t, c, "letter", 5, paperAt(c, "0@5", ""))
}

func TestNewNoChart(t *testing.T) {
	named := of("p p", "")
	named.Names[1] = "s0"
	for _, c := range []chart.Chart{{}, of("", ""), of("h", ""), of("p h0", ""), of("p p", "0>2"), of("p p", "5@0>1 0@0>1"), of("p p p0 p0 h0", "4>0"), named} {
		checkNewError(t, c, "letter", 5, api.ErrArg)
		checkNewError(t, c, "", 5, api.ErrArg)
		checkNewError(t, c, "letter", -1, api.ErrArg)
	}
}

// A name and a time that may not be stand ahead of a chart without an end.
func TestNewOrderOfErrors(t *testing.T) {
	c := of("p", "0>0")
	checkNewError(t, c, "letter", 0, api.ErrLoop)
	checkNewError(t, c, "letter", api.MaxTime, api.ErrLoop)
	for _, name := range notNames() {
		checkNewError(t, c, name, 0, api.ErrArg)
		checkNewError(t, c, name, -1, api.ErrArg)
	}
	checkNewError(t, c, "letter", -1, api.ErrArg)
	checkNewError(t, c, "letter", api.MaxTime+1, api.ErrArg)
}

// Two documents of one chart share nothing.
func TestNewApart(t *testing.T) {
	c := of("p p0 p0 h0 p", "0>4 1>2")
	first, taken, _ := New(c, "letter", 5)
	second, others, _ := New(c, "letter", 5)
	wipe(first, taken)
	if !equal(second, paperAt(c, "4@5 0:2", "")) || len(others) != 2 || others[0] != 1 || others[1] != 0 {
		t.Errorf("answers share memory: %+v, %v", second, others)
	}
	wipe(second, others)
	checkNew(t, c, "letter", 5, paperAt(c, "4@5 0:2", ""), 1, 0)
}
