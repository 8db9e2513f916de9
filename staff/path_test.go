package staff

import (
	"math"
	"slices"
	"strings"
	"testing"

	"imprimatur/api"
	"imprimatur/chart"
)

// chain returns a chart of as many Autos, one behind the other, as told, behind an On go from the beginning and ahead of an On end.
func chain(autos int) chart.Chart {
	c := of(strings.Repeat("p ", autos+3), "go:0>1")
	for i := range autos {
		c.Trans = append(c.Trans, chart.Trans{Kind: api.Auto, From: i + 1, To: i + 2})
	}
	c.Trans = append(c.Trans, chart.Trans{Kind: api.On, Event: "end", From: autos + 1, To: autos + 2})
	return spread(c)
}

func TestPathNoEvents(t *testing.T) {
	for _, c := range []chart.Chart{of("p", ""), of("a", "go"), of("p p", "0>1 go:1>0"), of("p p", "go:0>1 go:1>0 5@0>1")} {
		checkPath(t, c, "")
	}
	if path, err := Path(of("p", ""), nil); err != nil || len(path) != 0 {
		t.Error(path, err)
	}
}

func TestPathOne(t *testing.T) {
	c := of("p p p", "stop:0>1 go:1>2 go:0>2 5@0>1")
	checkPath(t, c, "go", 2)
	checkPath(t, c, "stop", 0)
	// The first of the chart is one, too.
	checkPath(t, of("p", "go"), "go", 0)
	// One that leads to where it comes from is taken each time.
	checkPath(t, of("p", "stop go"), "go go go", 1, 1, 1)
}

// Each event is taken from where the one before it leads to.
func TestPathSeveral(t *testing.T) {
	c := of("p p p", "go:2>0 go:1>2 go:0>1 back:1>0 back:2>1")
	checkPath(t, c, "go go", 2, 1)
	checkPath(t, c, "go go go", 2, 1, 0)
	checkPath(t, c, "go go go go go go", 2, 1, 0, 2, 1, 0)
	checkPath(t, c, "go back go go back back", 2, 3, 2, 1, 4, 3)
	checkPath(t, c, "go go back go go go", 2, 1, 4, 1, 0, 2)
}

// The permission and the task of a transition have no part in it: users are not asked for.
func TestPathAsksNoOne(t *testing.T) {
	checkPath(t, of("p p", "go/may=do:0>1 go:0>1 go/other=do:1>0"), "go go go", 0, 2, 0)
}

func TestPathLimit(t *testing.T) {
	c := of("p p", "go:0>1 go:1>0")
	for n := range api.MaxPath + 1 {
		checkPath(t, c, strings.Repeat("go ", n), []int{0, 1, 0, 1, 0, 1}[:n]...)
	}
	for _, n := range []int{api.MaxPath + 1, api.MaxPath + 2, 1000} {
		checkPathError(t, c, slices.Repeat([]string{"go"}, n), api.ErrLimit)
		// Ahead of all else that is wrong.
		checkPathError(t, c, slices.Repeat([]string{"none"}, n), api.ErrLimit)
		checkPathError(t, of("p", "0>0"), slices.Repeat([]string{"go"}, n), api.ErrLimit)
		checkPathError(t, of("p", "go 0>0"), slices.Repeat([]string{"none"}, n), api.ErrLimit)
		checkPathError(t, of("p p", "go:0>1 1>1"), slices.Repeat([]string{"go"}, n), api.ErrLimit)
		checkPathError(t, of("p", ""), make([]string, n), api.ErrLimit)
		checkPathError(t, chart.Chart{}, make([]string, n), api.ErrLimit)
	}
	// As many as may be, the last of which nothing is enabled for.
	checkPathError(t, c, []string{"go", "go", "go", "go", "go", "none"}, api.ErrState)
}

func TestPathState(t *testing.T) {
	for _, transitions := range []string{"", "go:1>0", "stop:0>1", "5@0>1", "g:0>1 go-:0>1 goo:0>1 og:0>1", "0>1 go:0>1"} {
		checkPathError(t, of("p p", transitions), []string{"go"}, api.ErrState)
	}
	c := of("p p p", "go:0>1 stop:1>2")
	for _, event := range []string{"", " ", "g", "o", "goo", "Go", "go ", " go", "go\x00", "s0", "stop", "\xff"} {
		checkPathError(t, c, []string{event}, api.ErrState)
		checkPathError(t, c, []string{event, "go"}, api.ErrState)
	}
	// Behind others.
	for _, events := range []string{"go go", "go none", "go stop stop", "go stop go", "go go stop", "go stop none stop"} {
		checkPathError(t, c, strings.Fields(events), api.ErrState)
	}
	checkPathError(t, c, []string{"go", ""}, api.ErrState)
	checkPath(t, c, "go stop", 0, 1)
	// What stands behind it doesn't matter.
	c = of("p p", "go:0>1 1>1")
	checkPathError(t, c, []string{"none", "go"}, api.ErrState)
}

func TestPathLoop(t *testing.T) {
	// The beginning has no end, with events and without, whatever they are.
	for _, c := range []chart.Chart{of("p", "go 0>0"), of("p p", "0>1 1>0 go:0>1 go:1>0"), of("p p0 p", "go:0>2 1>1")} {
		for _, events := range []string{"", "go", "none", "go go go go go go"} {
			checkPathError(t, c, strings.Fields(events), api.ErrLoop)
		}
		checkPathError(t, c, []string{""}, api.ErrLoop)
	}
	// There is none behind an event, the first or a later one.
	c := of("p p p", "go:0>1 go:1>2 2>2 stop:1>0")
	checkPath(t, c, "go stop go", 0, 3, 0)
	for _, events := range []string{"go go", "go stop go go", "go stop go stop go go", "go go go", "go go none"} {
		checkPathError(t, c, strings.Fields(events), api.ErrLoop)
	}
	checkPathError(t, of("p p", "go:0>1 1>1"), []string{"go"}, api.ErrLoop)
	checkPathError(t, of("p p", "go:0>1 1>1"), []string{"go", "none"}, api.ErrLoop)
}

// As many as MaxMicro may be taken behind each other at the beginning and behind each event, not one more.
func TestPathManyByThemselves(t *testing.T) {
	c := chain(api.MaxMicro)
	checkPath(t, c, "go end", 0, api.MaxMicro+1)
	c.Trans = append(c.Trans, chart.Trans{Kind: api.On, Event: "go", From: api.MaxMicro + 2, To: 1})
	checkPath(t, spread(c), "go end go end go end", 0, api.MaxMicro+1, api.MaxMicro+2, api.MaxMicro+1, api.MaxMicro+2, api.MaxMicro+1)
	c = chain(api.MaxMicro + 1)
	checkPathError(t, c, []string{"go"}, api.ErrLoop)
	checkPathError(t, c, []string{"go", "end"}, api.ErrLoop)
	checkPath(t, c, "")
	// The same at the beginning.
	c = chain(api.MaxMicro - 1)
	c.Trans[0] = chart.Trans{Kind: api.Auto, From: 0, To: 1}
	checkPath(t, c, "end", api.MaxMicro)
	c = chain(api.MaxMicro)
	c.Trans[0] = chart.Trans{Kind: api.Auto, From: 0, To: 1}
	checkPathError(t, c, []string{"end"}, api.ErrLoop)
	checkPathError(t, c, nil, api.ErrLoop)
}

// The one further in first, then by their order.
func TestPathFirst(t *testing.T) {
	checkPath(t, of("p p", "stop:0>1 go:0>1 go:0>0 go:0>1"), "go", 1)
	checkPath(t, of("p p", "stop:0>1 go:0>0 go:0>1"), "go go", 1, 1)
	checkPath(t, of("p p0 p1 p", "go:0>3 go:1>3 go:2>3 go:2>0 go:1>0 go:0>1"), "go", 2)
	checkPath(t, of("p p0 p1 p", "go:1>3 go:0>3 go:1>0"), "go", 0)
	checkPath(t, of("p p0 p1 p", "go:0>3 go:1>0"), "go go go", 1, 1, 1)
	// Further in, but the document is not there.
	checkPath(t, of("p p0 p0 p", "go:0>3 go:2>3 go:1>2"), "go go", 2, 1)
	// Of regions side by side the level counts, not the order of the states.
	checkPath(t, of("a p0 p0 p1 p1 p2 p2 p6 p6", "go:0>0 go:3>4 go:8>7 go:6>8 to:5>6"), "go to go go go go", 1, 4, 3, 2, 3, 2)
	// One of another event further in has no part in it, nor has one that is no On.
	checkPath(t, of("p p0 p0", "go:0>1 stop:1>2 5@1>2"), "go", 0)
}

// They lead to where the next event is taken from, and are not returned.
func TestPathByThemselves(t *testing.T) {
	// At the beginning.
	c := of("p p p", "go:0>2 0>1 stop:1>2")
	checkPath(t, c, "")
	checkPath(t, c, "stop", 2)
	checkPathError(t, c, []string{"go"}, api.ErrState)
	// Behind an event, one and several.
	c = of("p p p p", "1>2 go:0>1 go:1>0 go:2>3 3>0 stop:3>0")
	checkPath(t, c, "go", 1)
	checkPath(t, c, "go go", 1, 3)
	checkPath(t, c, "go go go go go go", 1, 3, 1, 3, 1, 3)
	checkPathError(t, c, []string{"go", "go", "stop"}, api.ErrState)
	c = of("p p p p", "go:0>1 1>2 2>3 back:3>0 back:2>0 back:1>0")
	checkPath(t, c, "go back go", 0, 3, 0)
	// No event takes one.
	c = of("p p", "0>1")
	checkPathError(t, c, []string{""}, api.ErrState)
	c = of("p p0 p0 p", "go:0>3 1>2")
	checkPath(t, c, "go", 0)
}

// No event takes an After, and no time goes by.
func TestPathAfter(t *testing.T) {
	c := of("p p", "1@0>1 go:1>0")
	checkPath(t, c, "")
	checkPathError(t, c, []string{""}, api.ErrState)
	checkPathError(t, c, []string{"go"}, api.ErrState)
	c = of("p p p", "1@0>1 go:0>2 1073741824@2>1 end:2>0 end:1>0")
	checkPath(t, c, "go end go", 1, 3, 1)
}

// What was left is remembered between the events.
func TestPathPastAndDeep(t *testing.T) {
	c := of("p p0 p0 h0 p", "in:1>2 out:0>4 back:4>3 go:1>1 end:2>2")
	checkPath(t, c, "out back go", 1, 2, 3)
	checkPath(t, c, "in out back end", 0, 1, 2, 4)
	checkPathError(t, c, []string{"in", "out", "back", "go"}, api.ErrState)
	c = of("p p0 p0 p2 p2 d0 p", "in:1>4 out:0>6 back:6>5 go:3>3 end:4>4")
	checkPath(t, c, "in out back end", 0, 1, 2, 4)
	checkPathError(t, c, []string{"in", "out", "back", "go"}, api.ErrState)
}

// Step.Begin refuses what is no chart.
func TestPathNoChart(t *testing.T) {
	for _, c := range []chart.Chart{
		{},
		of("", "go"),
		of("p", "go:0>1"),
		of("p", "go:1>0"),
		of("p", "go:-1>0"),
		of("p", "go!:0>0"),
		of("p h", "go"),
		of("p", strings.Repeat("go ", api.MaxTrans+1)),
		of(strings.Repeat("p ", api.MaxStates+1), "go"),
		{Names: []string{"a"}, Trans: []chart.Trans{{Kind: api.On, Event: "go", From: math.MaxInt, To: math.MinInt}}},
	} {
		checkPathError(t, c, nil, api.ErrArg)
		checkPathError(t, c, []string{"go"}, api.ErrArg)
		checkPathError(t, c, []string{"none", ""}, api.ErrArg)
	}
}

func TestPathManyTransitions(t *testing.T) {
	c := of(strings.Repeat("p ", api.MaxStates), strings.Repeat("stop:0>0 ", api.MaxTrans-2)+"go:0>23 end:23>0")
	checkPath(t, c, "go end stop go", api.MaxTrans-2, api.MaxTrans-1, 0, api.MaxTrans-2)
}
