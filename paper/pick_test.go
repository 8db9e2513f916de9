package paper

import (
	"math"
	"testing"

	"imprimatur/api"
	"imprimatur/chart"
	"imprimatur/step"
)

func TestPickNone(t *testing.T) {
	for _, transitions := range []string{"", "go:1>0", "stop:0>1", "0>1", "5@0>1", "g:0>1 go-:0>1 goo:0>1 og:0>1", "go:1>0 0>1 5@0>1 stop:0>1"} {
		c := of("p p", transitions)
		checkPick(t, c, paperAt(c, "0@1", ""), "go", -1)
	}
	c := of("p p", "go:0>1 go:1>0")
	for _, event := range []string{"", " ", "g", "o", "goo", "Go", "GO", "go ", " go", "go\x00", "write", "s0", "\xff"} {
		checkPick(t, c, paperAt(c, "0@1", ""), event, -1)
	}
	// A document that is nowhere takes none, nor does one of no chart.
	checkPick(t, c, Paper{}, "go", -1)
	checkPick(t, chart.Chart{}, Paper{At: step.Config{Set: math.MaxUint32}}, "go", -1)
}

func TestPickOne(t *testing.T) {
	c := of("p p p", "stop:0>1 0>1 go:1>2 go:0>2 5@0>1")
	checkPick(t, c, paperAt(c, "0@1", ""), "go", 3)
	checkPick(t, c, paperAt(c, "1@1", ""), "go", 2)
	checkPick(t, c, paperAt(c, "2@1", ""), "go", -1)
	checkPick(t, c, paperAt(c, "0@1", ""), "stop", 0)
	checkPick(t, c, paperAt(c, "1@1", ""), "stop", -1)
	// The first of the chart is one, too.
	c = of("p p", "go:0>1")
	checkPick(t, c, paperAt(c, "0@1", ""), "go", 0)
}

// The one further in first, then by their order.
func TestPickFirst(t *testing.T) {
	c := of("p p", "stop:0>1 go:0>1 go:0>0 go:0>1")
	checkPick(t, c, paperAt(c, "0@1", ""), "go", 1)
	c = of("p p0 p1 p", "go:0>3 go:1>3 go:2>3 go:2>0 go:1>0 go:0>1")
	checkPick(t, c, paperAt(c, "0@1 1@1 2@1", ""), "go", 2)
	c = of("p p0 p1 p", "go:1>3 go:0>3 go:1>0")
	checkPick(t, c, paperAt(c, "0@1 1@1 2@1", ""), "go", 0)
	// Further in, but the document is not there.
	c = of("p p0 p0 p", "go:0>3 go:2>3 go:1>3")
	checkPick(t, c, paperAt(c, "0@1 1@1", ""), "go", 2)
	checkPick(t, c, paperAt(c, "0@1 2@1", ""), "go", 1)
	checkPick(t, c, paperAt(c, "3@1", ""), "go", -1)
	// Of regions side by side the level counts, not the order of the states.
	c = of("a p0 p0 p1 p1 p2 p2 p6 p6", "go:0>0 go:3>4 go:8>7 go:6>5")
	checkPick(t, c, paperAt(c, "0@1 1@1 2@1 3@1 5@1", ""), "go", 1)
	checkPick(t, c, paperAt(c, "0@1 1@1 2@1 3@1 6@1 8@1", ""), "go", 2)
	checkPick(t, c, paperAt(c, "0@1 1@1 2@1 4@1 6@1 7@1", ""), "go", 3)
	checkPick(t, c, paperAt(c, "0@1 1@1 2@1 4@1 5@1", ""), "go", 0)
	// One of another event further in has no part in it, nor has one that is no On.
	c = of("p p0 p0", "go:0>1 stop:1>2 1>2 5@1>2")
	checkPick(t, c, paperAt(c, "0@1 1@1", ""), "go", 0)
}

// Of no event there is no On, and an Auto and an After are none.
func TestPickNoEvent(t *testing.T) {
	c := of("p p", "0>1 5@0>1 go:0>1")
	checkPick(t, c, paperAt(c, "0@1", ""), "", -1)
	c = of("p p", "0>1 5@0>1")
	checkPick(t, c, paperAt(c, "0@1", ""), "", -1)
}

// What is done, who would do it, the permission and the time have no part in it.
func TestPickAsksNoOne(t *testing.T) {
	c := of("p p", "go/write:0>1 go:0>1")
	c.Trans[0].Perm = "may"
	for _, done := range []string{"", "write=ann", "check=ann write=bob"} {
		checkPick(t, c, paperAt(c, "0@1", done), "go", 0)
		checkPick(t, c, paperAt(c, "0@1073741825", done), "go", 0)
	}
}

func TestPickManyTransitions(t *testing.T) {
	c := of("p p", "")
	for range api.MaxTrans - 1 {
		c.Trans = append(c.Trans, chart.Trans{Kind: api.On, Event: "stop", From: 0, To: 1})
	}
	c.Trans = append(c.Trans, chart.Trans{Kind: api.On, Event: "go", From: 0, To: 1})
	checkPick(t, c, paperAt(c, "0@1", ""), "go", api.MaxTrans-1)
	checkPick(t, c, paperAt(c, "0@1", ""), "stop", 0)
}
