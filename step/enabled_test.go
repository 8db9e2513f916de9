package step

import (
	"math"
	"slices"
	"strings"
	"testing"

	"imprimatur/api"
	"imprimatur/chart"
)

// nested is a chart of several levels: 0 at the top, with 1 and 2; 2 is an All of 3 and 4; 3 has 5 and 6; 4 has 7, which has 8; 9 stands at the top.
const nested = "p p0 a0 p2 p2 p3 p3 p4 p7 p"

func TestEnabledOfNoTransitions(t *testing.T) {
	c := of(nested, "")
	for _, kind := range []int{api.On, api.Auto, api.After, 0} {
		checkEnabled(t, c, document(c, 0, 1), kind, "")
		checkEnabled(t, c, document(c, 0, 1), kind, "go")
	}
	c.Trans = nil
	checkEnabled(t, c, document(c, 0, 1), api.Auto, "")
	c.Trans = []chart.Trans{}
	checkEnabled(t, c, document(c, 0, 1), api.Auto, "")
}

func TestEnabledKinds(t *testing.T) {
	c := of("p p", "go:0>1 0>1 5@0>1 go:0>0 0>0 9@0>0 stop:0>1")
	x := document(c, 0)
	checkEnabled(t, c, x, api.On, "go", 0, 3)
	checkEnabled(t, c, x, api.On, "stop", 6)
	checkEnabled(t, c, x, api.Auto, "", 1, 4)
	checkEnabled(t, c, x, api.After, "", 2, 5)
	for _, kind := range []int{math.MinInt, -9, -1, 0, 1, 2, 3, 4, 5, 6, 7, api.State, 12, 13, 9 + 256, 10 + 1<<32, math.MaxInt} {
		checkEnabled(t, c, x, kind, "")
		checkEnabled(t, c, x, kind, "go")
	}
}

// The event is asked of an On alone, and byte by byte.
func TestEnabledEvents(t *testing.T) {
	c := of("p p", "go:0>1 0>1 5@0>1 gone:0>1 g:0>1")
	x := document(c, 0)
	for _, event := range []string{"", "o", "Go", "GO", "go ", " go", "goo", "og", "go\x00", "\x00"} {
		checkEnabled(t, c, x, api.On, event)
		checkEnabled(t, c, x, api.Auto, event, 1)
		checkEnabled(t, c, x, api.After, event, 2)
	}
	for _, event := range []string{"go", "gone", "g"} {
		checkEnabled(t, c, x, api.Auto, event, 1)
		checkEnabled(t, c, x, api.After, event, 2)
	}
	checkEnabled(t, c, x, api.On, "go", 0)
	checkEnabled(t, c, x, api.On, "gone", 3)
	checkEnabled(t, c, x, api.On, "g", 4)
}

// What a transition asks for beside its event, and how long an After takes, have no part in it.
func TestEnabledWhateverItAsks(t *testing.T) {
	c := of("p p", "go:0>1 go:0>1 go:0>1 1@0>1 1073741824@0>1")
	c.Trans[1].Perm, c.Trans[1].Task = "write", "send"
	c.Trans[2].Task = "send"
	checkEnabled(t, c, at(c, "0@1000"), api.On, "go", 0, 1, 2)
	checkEnabled(t, c, at(c, "0@1000"), api.After, "", 3, 4)
	checkEnabled(t, c, at(c, "0@-1"), api.After, "", 3, 4)
}

func TestEnabledFrom(t *testing.T) {
	c := of("p p p p", "0>1 1>1 2>1 3>1 1>2")
	checkEnabled(t, c, document(c, 0), api.Auto, "", 0)
	checkEnabled(t, c, document(c, 1), api.Auto, "", 1, 4)
	checkEnabled(t, c, document(c, 2), api.Auto, "", 2)
	checkEnabled(t, c, document(c, 3), api.Auto, "", 3)
	checkEnabled(t, c, document(c), api.Auto, "")
	// Since and Past have no part in it.
	checkEnabled(t, c, at(c, "0@0 1:2,3"), api.Auto, "", 0)
	checkEnabled(t, c, at(c, "1@-5 0:0"), api.Auto, "", 1, 4)
	c = of("a p0 p0 p1 p1 p2 p2", "go:3>4 go:4>3 go:5>6 go:6>5 go:0>0 stop:1>2")
	checkEnabled(t, c, document(c, 0, 1, 2, 3, 6), api.On, "go", 0, 3, 4)
	checkEnabled(t, c, document(c, 0, 1, 2, 4, 5), api.On, "go", 1, 2, 4)
	checkEnabled(t, c, document(c, 0, 1, 2, 4, 5), api.On, "stop", 5)
}

// Of a document that is in all states that there may be, each transition leads from one.
func TestEnabledLastState(t *testing.T) {
	c := of("a"+strings.Repeat(" p0", api.MaxStates-1), "23>1 1>1 22>23 0>1")
	checkEnabled(t, c, document(c, 0, 1, 22, 23), api.Auto, "", 0, 1, 2, 3)
	checkEnabled(t, c, document(c, 0, 1, 22), api.Auto, "", 1, 2, 3)
	checkEnabled(t, c, document(c, 23), api.Auto, "", 0)
	checkEnabled(t, c, Config{Set: math.MaxUint32}, api.Auto, "", 0, 1, 2, 3)
}

// The innermost come first, whatever their indices are.
func TestEnabledOrder(t *testing.T) {
	c := of(nested, "go:0>9 go:2>9 go:5>9 go:8>9 go:7>9 go:4>9 go:3>9 go:9>9")
	checkEnabled(t, c, document(c, 0, 2, 3, 4, 5, 7, 8), api.On, "go", 3, 2, 4, 5, 6, 1, 0)
	checkEnabled(t, c, document(c, 9), api.On, "go", 7)
	// The level of To has no part in it, nor has the state's index: here the innermost states stand first.
	c = of("p p0 p1 p p3", "4>2 3>0 4>0 3>2 4>4")
	checkEnabled(t, c, document(c, 3, 4), api.Auto, "", 0, 2, 4, 1, 3)
	c = of("a p0 p0 p2 p1 p4", "3>1 4>1 5>1 2>1 1>1")
	checkEnabled(t, c, document(c, 0, 1, 2, 3, 4, 5), api.Auto, "", 2, 0, 1, 3, 4)
	// Kids of an All are levels, too.
	c = of("a a0 a1 a2 p3", "0>0 2>0 4>0 3>0 1>0 4>4")
	checkEnabled(t, c, document(c, 0, 1, 2, 3, 4), api.Auto, "", 2, 5, 3, 1, 4, 0)
}

// Many of few levels, by turns: equal ones stay as they stand.
func TestEnabledEqualLevels(t *testing.T) {
	var words []string
	var inner, middle, outer []int
	for i := range api.MaxTrans {
		words = append(words, []string{"0>0", "5>0", "3>0", "8>0", "6>0", "2>0", "7>0"}[i%7])
		switch i % 7 {
		case 3:
			inner = append(inner, i)
		case 1, 4, 6:
			middle = append(middle, i)
		case 2:
			outer = append(outer, i)
		}
	}
	// 5, 6 and 7 are of one level; a document is never in 5 and 6, but Enabled asks a set alone.
	c := of(nested, strings.Join(words, " "))
	checkEnabled(t, c, document(c, 3, 5, 6, 7, 8), api.Auto, "", slices.Concat(inner, middle, outer)...)
}

// Seven transitions of four levels in every order of the chart.
func TestEnabledEveryOrder(t *testing.T) {
	froms := []int{8, 5, 7, 3, 4, 2, 0}
	level := map[int]int{8: 4, 5: 3, 7: 3, 3: 2, 4: 2, 2: 1, 0: 0}
	orders := 0
	permute(froms, 0, func() {
		orders++
		var c chart.Chart
		var want []int
		for deep := 4; deep >= 0; deep-- {
			for i, from := range froms {
				if level[from] == deep {
					want = append(want, i)
				}
			}
		}
		c.Shape = of(nested, "").Shape
		for _, from := range froms {
			c.Trans = append(c.Trans, chart.Trans{Kind: api.On, Event: "go", From: from, To: 9})
		}
		checkEnabled(t, c, document(c, 0, 2, 3, 4, 5, 7, 8), api.On, "go", want...)
	})
	if orders != 5040 {
		t.Errorf("%d orders", orders)
	}
}

// permute calls f with all orders of l behind the first n elements.
func permute(l []int, n int, f func()) {
	if n == len(l) {
		f()
	}
	for i := n; i < len(l); i++ {
		l[n], l[i] = l[i], l[n]
		permute(l, n+1, f)
		l[n], l[i] = l[i], l[n]
	}
}
