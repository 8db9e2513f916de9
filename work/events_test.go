package work

import (
	"math"
	"strconv"
	"strings"
	"testing"

	"imprimatur/api"
	"imprimatur/chart"
	"imprimatur/paper"
	"imprimatur/step"
)

func TestEventsNone(t *testing.T) {
	c := of("p p", "")
	checkEvents(t, c, paperIn(c, "letter", "0", ""), "")
	checkEvents(t, c, paperIn(c, "letter", "1", "x=ann"), "")
	// No chart, no document, and neither.
	checkEvents(t, chart.Chart{}, paper.Paper{}, "")
	checkEvents(t, chart.Chart{}, paperIn(c, "letter", "0", ""), "")
	c = of("p p", "go:0>1 to:1>0")
	checkEvents(t, c, paper.Paper{}, "")
	checkEvents(t, c, paperIn(c, "letter", "", ""), "")
}

func TestEventsOne(t *testing.T) {
	c := of("p p p", "go:0>1 to:1>2 back:1>1")
	checkEvents(t, c, paperIn(c, "letter", "0", ""), "go")
	checkEvents(t, c, paperIn(c, "letter", "1", ""), "to back")
	checkEvents(t, c, paperIn(c, "letter", "2", ""), "")
}

// The order of the transitions, neither that of the names nor that of the states.
func TestEventsOrder(t *testing.T) {
	c := of("p", "zoo kite ant moth bee")
	checkEvents(t, c, paperIn(c, "letter", "0", ""), "zoo kite ant moth bee")
	// States within states.
	c = of("p p0 p1 p", "in:2>3 out:0>3 mid:1>3 other:3>0 top:0>0 low:2>2")
	checkEvents(t, c, paperIn(c, "letter", "0 1 2", ""), "in out mid top low")
	checkEvents(t, c, paperIn(c, "letter", "3", ""), "other")
	c = of("p p0 p1 p", "out:0>3 mid:1>3 in:2>3")
	checkEvents(t, c, paperIn(c, "letter", "0 1 2", ""), "out mid in")
	// Regions side by side.
	c = of("a p0 p0 p1 p1 p2 p2", "d:6>5 c:4>3 e:0>0 b:5>6 f:2>2 a:3>4 g:1>1")
	checkEvents(t, c, paperIn(c, "letter", "0 1 3 2 5", ""), "e b f a g")
	checkEvents(t, c, paperIn(c, "letter", "0 1 4 2 6", ""), "d c e f g")
	checkEvents(t, c, paperIn(c, "letter", "0 1 4 2 5", ""), "c e b f g")
}

// An event of several transitions stands at the first of those that lead from where the document is.
func TestEventsOnce(t *testing.T) {
	c := of("p p", "go to go go to")
	checkEvents(t, c, paperIn(c, "letter", "0", ""), "go to")
	c = of("p p", "go:1>0 to:0>1 by:0>0 go:0>1 to:1>1 by:0>1")
	checkEvents(t, c, paperIn(c, "letter", "0", ""), "to by go")
	checkEvents(t, c, paperIn(c, "letter", "1", ""), "go to")
	// From several states that the document is in, at the outer one first or at the inner one.
	c = of("p p0 p1", "go:0>0 to:1>1 go:2>2 by:1>1 to:2>2 on:2>2")
	checkEvents(t, c, paperIn(c, "letter", "0 1 2", ""), "go to by on")
	c = of("a p0 p0", "to:2>2 go:1>1 to:1>1 go:2>2 to:0>0")
	checkEvents(t, c, paperIn(c, "letter", "0 1 2", ""), "to go")
	// Unlike permissions and tasks make it no other event.
	c = of("p", "go/p=x go/q=y go to/p go=x")
	checkEvents(t, c, paperIn(c, "letter", "0", ""), "go to")
}

// Names that are near to one another are different.
func TestEventsNearNames(t *testing.T) {
	c := of("p", "go goo g og go1 go_ go g")
	checkEvents(t, c, paperIn(c, "letter", "0", ""), "go goo g og go1 go_")
}

// An Auto and an After have no event to be told, whatever stands there.
func TestEventsNoOn(t *testing.T) {
	c := of("p p", "0>1 5@0>1")
	checkEvents(t, c, paperIn(c, "letter", "0", ""), "")
	c = of("p p", "0>1 go:0>1 5@0>1 to:0>1 0>0")
	checkEvents(t, c, paperIn(c, "letter", "0", ""), "go to")
	for kind := -1; kind <= 20; kind++ {
		c = of("p p", "auto:0>1 go:0>1")
		c.Trans[0].Kind = kind
		want := "go"
		if kind == api.On {
			want = "auto go"
		}
		checkEvents(t, c, paperIn(c, "letter", "0", ""), want)
	}
}

// Who may do it, what was done and when has no part in it.
func TestEventsAsksNoOne(t *testing.T) {
	c := of("p p", "go/none=x:0>1 to/nothing=y:0>1 by:0>1")
	for _, done := range []string{"", "x=ann", "x=ann y=ann", "y=bob x=ann x=ann"} {
		p := paperIn(c, "letter", "0", done)
		checkEvents(t, c, p, "go to by")
		p.At.Past[0], p.At.Since[0] = math.MaxUint32, math.MaxInt
		checkEvents(t, c, p, "go to by")
		p.At.Past, p.At.Since, p.Name = nil, nil, ""
		checkEvents(t, c, p, "go to by")
	}
}

// As many transitions as there may be, and states up to the last.
func TestEventsMost(t *testing.T) {
	words := strings.Fields(strings.Repeat("p ", api.MaxStates))
	last := strconv.Itoa(api.MaxStates - 1)
	var transitions, events []string
	for i := range api.MaxTrans {
		event := "e" + strconv.Itoa(api.MaxTrans-i)
		transitions = append(transitions, event+":"+last+">0")
		events = append(events, event)
	}
	c := of(strings.Join(words, " "), strings.Join(transitions, " "))
	checkEvents(t, c, paperIn(c, "letter", last, ""), strings.Join(events, " "))
	checkEvents(t, c, paperIn(c, "letter", "0", ""), "")
	c = of(strings.Join(words, " "), strings.Repeat("go:"+last+">0 ", api.MaxTrans))
	checkEvents(t, c, paperIn(c, "letter", last, ""), "go")
}

// A document is never in what is no state, and its transitions lead from nowhere (R8).
func TestEventsNoState(t *testing.T) {
	c := of("p p", "")
	for _, from := range []int{math.MinInt, -1 << 32, -64, -32, -2, -1, 2, 3, 24, 31, 32, 33, 63, 64, 1 << 32, math.MaxInt} {
		c.Trans = []chart.Trans{{Kind: api.On, Event: "no", From: from}, {Kind: api.On, Event: "go", To: from}}
		p := paperIn(c, "letter", "0 1", "")
		checkEvents(t, c, p, "go")
		p.At.Set = math.MaxUint32
		checkEvents(t, c, p, "go")
		for _, event := range []string{"no", "go"} {
			if told := event == "go"; paper.Pick(c, p, event) < 0 == told {
				t.Errorf("%q from %d is told: %t, and is picked: %t", event, from, told, !told)
			}
		}
	}
	c = of("", "go to:7>0")
	checkEvents(t, c, paper.Paper{At: step.Config{Set: math.MaxUint32}}, "")
}

// Documents as they become, with what goes by itself and what is gone back to.
func TestEventsOfDocuments(t *testing.T) {
	c := of("p a p1 p1 p2 p2 h2 p", "start:0>7 open:0>1 back:1>6 pause:1>7 again:7>6 turn:4>5 end:3>0 7>0")
	p, _, err := paper.New(c, "letter", 3)
	if err != nil {
		t.Fatal(err)
	}
	for _, next := range []struct{ event, events string }{
		{"start", "start open"},
		{"open", "start open"},
		{"turn", "back pause turn end"},
		{"back", "back pause end"},
		{"end", "back pause end"},
		{"open", "start open"},
	} {
		checkEvents(t, c, p, next.events)
		if p, _, err = paper.Fire(c, p, paper.Pick(c, p, next.event), "ann", nil, 4); err != nil {
			t.Fatal(next.event, err)
		}
	}
	checkEvents(t, c, p, "back pause turn end")
}
