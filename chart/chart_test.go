package chart

import (
	"math"
	"reflect"
	"slices"
	"strconv"
	"strings"
	"testing"

	"imprimatur/api"
	"imprimatur/policy"
	"imprimatur/shape"
)

// rules returns the rules of a text, whose lines are separated by semicolons; the Line of each is its number in the text.
// Beyond the list is memory that would change the answers if it were read.
func rules(t *testing.T, text string) []api.Rule {
	t.Helper()
	l, err := policy.Parse(strings.ReplaceAll(text, ";", "\n"))
	if err != nil {
		t.Fatalf("%q: %v", text, err)
	}
	return over(l...)
}

// over returns a list of rules with some beyond its end.
func over(l ...api.Rule) []api.Rule {
	n := len(l)
	l = append(l[:n:n], api.Rule{}, api.Rule{Kind: api.State, Name: "beyond", N: api.Plain})
	return l[:n]
}

// of returns a chart: its states as in "p a1 h0" (p, a, h or d for Plain, All, Past or Deep, and the parent's index, none: the top), its transitions as in "0>1 2>0".
// Beyond its lists is memory that would change the answers if it were read.
func of(states, transitions string) Chart {
	var c Chart
	for i, word := range strings.Fields(states) {
		parent := -1
		if len(word) > 1 {
			parent, _ = strconv.Atoi(word[1:])
		}
		c.Names = append(c.Names, "s"+strconv.Itoa(i))
		c.Shape.Kinds = append(c.Shape.Kinds, 1+strings.IndexByte("pahd", word[0]))
		c.Shape.Parents = append(c.Shape.Parents, parent)
	}
	for _, word := range strings.Fields(transitions) {
		from, to, _ := strings.Cut(word, ">")
		x := Trans{Kind: api.Auto}
		x.From, _ = strconv.Atoi(from)
		x.To, _ = strconv.Atoi(to)
		c.Trans = append(c.Trans, x)
	}
	return spread(c)
}

// spread returns a copy of a chart with memory beyond its lists.
func spread(c Chart) Chart {
	return Chart{
		Names: beyond(c.Names, "s0"),
		Shape: shape.Shape{Kinds: beyond(c.Shape.Kinds, api.Plain), Parents: beyond(c.Shape.Parents, -1)},
		Trans: beyond(c.Trans, Trans{Kind: api.Auto, To: len(c.Names) - 1}),
	}
}

// beyond returns a copy of a list, with more behind its end.
func beyond[E any](l []E, more E) []E {
	return append(slices.Clone(l), more, more, more)[:len(l)]
}

// clone returns a copy of a chart, with what is beyond its lists.
func clone(c Chart) Chart {
	return Chart{
		Names: slices.Clone(c.Names[:cap(c.Names)]),
		Shape: shape.Shape{Kinds: slices.Clone(c.Shape.Kinds[:cap(c.Shape.Kinds)]), Parents: slices.Clone(c.Shape.Parents[:cap(c.Shape.Parents)])},
		Trans: slices.Clone(c.Trans[:cap(c.Trans)]),
	}
}

// kept asks, when it is called behind a call, whether a chart is as it was, the memory beyond its lists included (R4).
func kept(t *testing.T, c Chart) func() {
	t.Helper()
	before := clone(c)
	return func() {
		t.Helper()
		after := clone(c)
		if !slices.Equal(before.Names, after.Names) || !slices.Equal(before.Shape.Kinds, after.Shape.Kinds) || !slices.Equal(before.Shape.Parents, after.Shape.Parents) || !slices.Equal(before.Trans, after.Trans) {
			t.Errorf("%+v became %+v", before, after)
		}
	}
}

// keptRules asks, when it is called behind a call, whether rules are as they were, their lists and the memory beyond included (R4).
func keptRules(t *testing.T, l []api.Rule) func() {
	t.Helper()
	whole := l[:cap(l)]
	before := slices.Clone(whole)
	for i := range before {
		before[i].List = slices.Clone(before[i].List)
	}
	return func() {
		t.Helper()
		if !reflect.DeepEqual(before, whole) {
			t.Errorf("%+v became %+v", before, whole)
		}
	}
}

func checkValid(t *testing.T, want bool, c Chart) {
	t.Helper()
	defer kept(t, c)()
	if valid := Valid(c); valid != want {
		t.Errorf("Valid(%+v) is %t", c, valid)
	}
}

// whole returns a valid chart with states of all kinds, and transitions of all kinds that have each field they may.
func whole() Chart {
	c := of("p p p1 p1 h1 d1 a", "")
	c.Trans = []Trans{
		{Kind: api.On, From: 0, To: 1, Event: "send", Perm: "may", Task: "write"},
		{Kind: api.Auto, From: 2, To: 3},
		{Kind: api.After, From: 6, To: 4, Time: 5},
		{Kind: api.On, From: 3, To: 5, Event: "hold"},
	}
	return spread(c)
}

// The places of whole's transitions.
const (
	on    = 0
	auto  = 1
	after = 2
)

// changed returns whole with one thing changed.
func changed(change func(c *Chart)) Chart {
	c := whole()
	change(&c)
	return c
}

// changedTrans returns whole with one thing of a transition changed.
func changedTrans(at int, change func(x *Trans)) Chart {
	return changed(func(c *Chart) { change(&c.Trans[at]) })
}

func TestValid(t *testing.T) {
	checkValid(t, true, whole())
	checkValid(t, true, of("p", ""))
	checkValid(t, true, of("a", ""))
	checkValid(t, true, of("p", "0>0 0>0"))
	checkValid(t, true, of("p p p0 p0 h0 d0", "1>4 1>5 2>4 0>0 3>1"))
	checkValid(t, false, Chart{})
	checkValid(t, false, of("", ""))
}

func TestValidNames(t *testing.T) {
	checkValid(t, false, changed(func(c *Chart) { c.Names = c.Names[:6] }))
	checkValid(t, false, changed(func(c *Chart) { c.Names = c.Names[:0] }))
	checkValid(t, false, changed(func(c *Chart) { c.Names = nil }))
	checkValid(t, false, changed(func(c *Chart) { c.Names = append(c.Names, "more") }))
	checkValid(t, false, Chart{Names: []string{"a"}})
	for i := range whole().Names {
		for j := range i {
			checkValid(t, false, changed(func(c *Chart) { c.Names[i] = c.Names[j] }))
		}
		for _, name := range []string{"", "A", "a b", " a", "a ", "a#", "\x00", "\u00e9", "a.b", ">", strings.Repeat("x", api.MaxName+1)} {
			checkValid(t, false, changed(func(c *Chart) { c.Names[i] = name }))
		}
		for _, name := range []string{"a", "0", "_", "-", "from", "plain", strings.Repeat("x", api.MaxName)} {
			checkValid(t, true, changed(func(c *Chart) { c.Names[i] = name }))
		}
	}
}

func TestValidShape(t *testing.T) {
	checkValid(t, false, changed(func(c *Chart) { c.Shape.Kinds = c.Shape.Kinds[:6] }))
	checkValid(t, false, changed(func(c *Chart) { c.Shape.Parents = c.Shape.Parents[:6] }))
	checkValid(t, false, changed(func(c *Chart) { c.Shape = shape.Shape{} }))
	checkValid(t, false, changed(func(c *Chart) { c.Shape.Kinds[6] = 0 }))
	checkValid(t, false, changed(func(c *Chart) { c.Shape.Kinds[6] = 5 }))
	checkValid(t, false, changed(func(c *Chart) { c.Shape.Kinds[1] = api.All }))
	checkValid(t, false, changed(func(c *Chart) { c.Shape.Parents[4] = -1 }))
	checkValid(t, false, changed(func(c *Chart) { c.Shape.Parents[0] = 0 }))
	checkValid(t, false, changed(func(c *Chart) { c.Shape.Parents[2] = 6 }))
	checkValid(t, false, changed(func(c *Chart) { c.Shape.Parents[3] = -2 }))
	checkValid(t, false, of("p p h1", ""))
	checkValid(t, false, of("h", ""))
	for n := range api.MaxStates + 3 {
		checkValid(t, n >= 1 && n <= api.MaxStates, of(strings.Repeat("p ", n), ""))
	}
}

func TestValidNumberOfTransitions(t *testing.T) {
	for _, n := range []int{0, 1, api.MaxTrans - 1, api.MaxTrans, api.MaxTrans + 1, 1000} {
		for _, x := range whole().Trans {
			checkValid(t, n <= api.MaxTrans, changed(func(c *Chart) { c.Trans = beyond(slices.Repeat([]Trans{x}, n), x) }))
		}
	}
}

var notNames = []string{"A", "a b", " ", "a ", "#", "\x7f", "\u00e9", "xxxxxxxxxxxxx"}

func TestValidOn(t *testing.T) {
	for _, s := range append(notNames, "") {
		checkValid(t, false, changedTrans(on, func(x *Trans) { x.Event = s }))
	}
	for _, s := range notNames {
		checkValid(t, false, changedTrans(on, func(x *Trans) { x.Perm = s }))
		checkValid(t, false, changedTrans(on, func(x *Trans) { x.Task = s }))
	}
	for _, s := range []string{"a", "from", "0", "xxxxxxxxxxxx"} {
		checkValid(t, true, changedTrans(on, func(x *Trans) { x.Event = s }))
		checkValid(t, true, changedTrans(on, func(x *Trans) { x.Perm = s }))
		checkValid(t, true, changedTrans(on, func(x *Trans) { x.Task = s }))
	}
	checkValid(t, true, changedTrans(on, func(x *Trans) { x.Perm = "" }))
	checkValid(t, true, changedTrans(on, func(x *Trans) { x.Task = "" }))
	for _, n := range []int{math.MinInt, -1, 1, api.MaxTime, math.MaxInt} {
		checkValid(t, false, changedTrans(on, func(x *Trans) { x.Time = n }))
	}
}

// An Auto and an After have neither event nor permission nor task.
func TestValidSilent(t *testing.T) {
	for _, at := range []int{auto, after} {
		for _, s := range append(notNames, "a") {
			checkValid(t, false, changedTrans(at, func(x *Trans) { x.Event = s }))
			checkValid(t, false, changedTrans(at, func(x *Trans) { x.Perm = s }))
			checkValid(t, false, changedTrans(at, func(x *Trans) { x.Task = s }))
		}
	}
}

func TestValidTime(t *testing.T) {
	for _, n := range []int{math.MinInt, -api.MaxTime, -2, -1, 0, 1, 2, 999999999, 1000000000, api.MaxTime - 1, api.MaxTime, api.MaxTime + 1, 1 << 32, 1<<32 + 1, math.MaxInt} {
		checkValid(t, n == 0, changedTrans(auto, func(x *Trans) { x.Time = n }))
		checkValid(t, n >= 1 && n <= api.MaxTime, changedTrans(after, func(x *Trans) { x.Time = n }))
	}
}

func TestValidKindOfTransition(t *testing.T) {
	for at, x := range whole().Trans {
		for _, kind := range []int{math.MinInt, -9, -1, 0, 1, 2, 3, 4, 5, 6, 7, api.State, 12, 13, 9 + 256, 10 + 1<<32, math.MaxInt} {
			checkValid(t, false, changedTrans(at, func(x *Trans) { x.Kind = kind }))
		}
		for _, kind := range []int{api.On, api.Auto, api.After} {
			checkValid(t, kind == x.Kind, changedTrans(at, func(x *Trans) { x.Kind = kind }))
		}
	}
	checkValid(t, false, changedTrans(auto, func(x *Trans) { *x = Trans{} }))
}

func TestValidFromAndTo(t *testing.T) {
	for at := range whole().Trans {
		for _, state := range []int{math.MinInt, math.MinInt32, -2, -1, 7, 8, 23, 24, 31, 32, 64, math.MaxInt} {
			checkValid(t, false, changedTrans(at, func(x *Trans) { x.From = state }))
			checkValid(t, false, changedTrans(at, func(x *Trans) { x.To = state }))
		}
		for state, kind := range whole().Shape.Kinds {
			checkValid(t, kind == api.Plain || kind == api.All, changedTrans(at, func(x *Trans) { x.From = state }))
			checkValid(t, true, changedTrans(at, func(x *Trans) { x.To = state }))
		}
	}
}

func checkSame(t *testing.T, want bool, a, b Chart) {
	t.Helper()
	defer kept(t, a)()
	defer kept(t, b)()
	if same, back := Same(a, b), Same(b, a); same != want || back != want {
		t.Errorf("Same(%+v, %+v) is %t, and back %t", a, b, same, back)
	}
}

func TestSame(t *testing.T) {
	checkSame(t, true, whole(), whole())
	checkSame(t, true, whole(), clone(changed(func(c *Chart) {
		c.Names, c.Shape.Kinds, c.Shape.Parents, c.Trans = c.Names[:7:7], c.Shape.Kinds[:7:7], c.Shape.Parents[:7:7], c.Trans[:4:4]
	})))
	checkSame(t, true, Chart{}, Chart{})
	checkSame(t, true, Chart{}, Chart{Names: []string{}, Shape: shape.Shape{Kinds: []int{}, Parents: []int{}}, Trans: []Trans{}})
	checkSame(t, true, of("p p0", ""), of("p p0", ""))
	checkSame(t, false, Chart{}, of("p", ""))
	checkSame(t, false, whole(), Chart{})
	c := whole()
	checkSame(t, true, c, c)
}

// Each part that differs alone: the lists by an element, by their order, by their length.
func TestSameParts(t *testing.T) {
	for i := range whole().Names {
		checkSame(t, false, whole(), changed(func(c *Chart) { c.Names[i] = "other" }))
		checkSame(t, false, whole(), changed(func(c *Chart) { c.Shape.Kinds[i]++ }))
		checkSame(t, false, whole(), changed(func(c *Chart) { c.Shape.Parents[i]-- }))
	}
	for _, change := range []func(c *Chart){
		func(c *Chart) { c.Names[0], c.Names[1] = c.Names[1], c.Names[0] },
		func(c *Chart) { slices.Reverse(c.Trans) },
		func(c *Chart) { c.Names = c.Names[:6] },
		func(c *Chart) { c.Names = c.Names[:8] },
		func(c *Chart) { c.Names = nil },
		func(c *Chart) { c.Shape.Kinds = c.Shape.Kinds[:6] },
		func(c *Chart) { c.Shape.Kinds = c.Shape.Kinds[:8] },
		func(c *Chart) { c.Shape.Kinds = nil },
		func(c *Chart) { c.Shape.Parents = c.Shape.Parents[:6] },
		func(c *Chart) { c.Shape.Parents = c.Shape.Parents[:8] },
		func(c *Chart) { c.Shape.Parents = nil },
		func(c *Chart) { c.Trans = c.Trans[:3] },
		func(c *Chart) { c.Trans = c.Trans[:5] },
		func(c *Chart) { c.Trans = nil },
	} {
		checkSame(t, false, whole(), changed(change))
	}
}

func TestSameTransitions(t *testing.T) {
	for at := range whole().Trans {
		for _, change := range []func(x *Trans){
			func(x *Trans) { x.Kind++ },
			func(x *Trans) { x.From++ },
			func(x *Trans) { x.To-- },
			func(x *Trans) { x.Event += "x" },
			func(x *Trans) { x.Perm += "x" },
			func(x *Trans) { x.Task += "x" },
			func(x *Trans) { x.Time++ },
			func(x *Trans) { x.From, x.To = x.To, x.From },
		} {
			checkSame(t, false, whole(), changedTrans(at, change))
		}
	}
	checkSame(t, false, whole(), changedTrans(on, func(x *Trans) { x.Event, x.Perm = x.Perm, x.Event }))
	checkSame(t, false, whole(), changedTrans(on, func(x *Trans) { x.Perm, x.Task = x.Task, x.Perm }))
	checkSame(t, false, whole(), changedTrans(on, func(x *Trans) { x.Event = "Send" }))
}

// What is no chart is compared, too.
func TestSameNoCharts(t *testing.T) {
	odd := Chart{Names: []string{"", "A", "A"}, Shape: shape.Shape{Kinds: []int{-7, math.MaxInt}, Parents: []int{9}}, Trans: []Trans{{}, {Kind: -1, From: math.MinInt, To: 77, Event: "\x00"}}}
	checkSame(t, true, odd, spread(odd))
	other := spread(odd)
	other.Trans[1].Event = ""
	checkSame(t, false, odd, other)
}
