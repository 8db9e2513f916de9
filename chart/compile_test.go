package chart

import (
	"errors"
	"reflect"
	"slices"
	"strconv"
	"strings"
	"testing"

	"imprimatur/api"
	"imprimatur/shape"
)

// checkChart holds the chart of rules, twice, and asks whether it is new memory each time and whether Valid reports it (R4).
func checkChart(t *testing.T, l []api.Rule, want Chart) {
	t.Helper()
	defer keptRules(t, l)()
	first, err := Compile(l)
	if err != nil || !same(first, want) || !Valid(first) {
		t.Errorf("Compile(%+v) is %+v, %v, not %+v", l, first, err, want)
		return
	}
	second, _ := Compile(l)
	wipe(first)
	if third, _ := Compile(l); !same(second, want) || !same(third, want) {
		t.Errorf("charts share memory: %+v, %+v", second, third)
	}
}

// same reports whether two charts are equal, without a call that is to be checked.
func same(a, b Chart) bool {
	empty := Chart{Names: []string{}, Shape: shape.Shape{Kinds: []int{}, Parents: []int{}}, Trans: []Trans{}}
	for _, c := range []*Chart{&a, &b} {
		c.Names = append(empty.Names, c.Names...)
		c.Shape.Kinds = append(empty.Shape.Kinds, c.Shape.Kinds...)
		c.Shape.Parents = append(empty.Shape.Parents, c.Shape.Parents...)
		c.Trans = append(empty.Trans, c.Trans...)
	}
	return reflect.DeepEqual(a, b)
}

// wipe clears all lists of a chart, and what is beyond them.
func wipe(c Chart) {
	clear(c.Names[:cap(c.Names)])
	clear(c.Shape.Kinds[:cap(c.Shape.Kinds)])
	clear(c.Shape.Parents[:cap(c.Shape.Parents)])
	clear(c.Trans[:cap(c.Trans)])
}

// checkFault holds the fault of rules: the Line of the rule at an index, column 1, and what is wrapped.
// It is asked with Lines of several sorts: those of the text, and some that no text has.
func checkFault(t *testing.T, l []api.Rule, at int, want api.Errno) {
	t.Helper()
	for _, step := range []int{0, 1, -3, 1 << 40} {
		l = over(slices.Clone(l)...)
		for i := range l {
			if step != 0 {
				l[i].Line = step * (i - 2)
			}
		}
		checkPlace(t, l, l[at].Line, 1, want)
	}
}

func checkPlace(t *testing.T, l []api.Rule, line, column int, want api.Errno) {
	t.Helper()
	defer keptRules(t, l)()
	c, err := Compile(l)
	var f *api.Fault
	if !errors.As(err, &f) || f.Line != line || f.Column != column || !errors.Is(err, want) || !same(c, Chart{}) {
		t.Errorf("Compile(%+v) is %+v, %+v, %v, not line %d, column %d, %v", l, c, f, err, line, column, want)
	}
}

// checkNoShape holds the error of states that all may be, but not together.
func checkNoShape(t *testing.T, l []api.Rule) {
	t.Helper()
	checkPlace(t, l, 0, 0, api.ErrNone)
}

// checkNoLine holds the error of a rule that cannot be printed: it has no place.
func checkNoLine(t *testing.T, l []api.Rule) {
	t.Helper()
	defer keptRules(t, l)()
	c, err := Compile(l)
	var f *api.Fault
	if !errors.Is(err, api.ErrArg) || errors.As(err, &f) || !same(c, Chart{}) {
		t.Errorf("Compile(%+v) is %+v, %+v, %v, not ErrArg alone", l, c, f, err)
	}
}

// numbered returns a text of n lines; in each, # is a number of its own.
func numbered(n int, line string) string {
	var l []string
	for i := range n {
		l = append(l, strings.ReplaceAll(line, "#", strconv.Itoa(i)))
	}
	return strings.Join(l, ";")
}

func TestNoRules(t *testing.T) {
	checkNoShape(t, nil)
	checkNoShape(t, []api.Rule{})
	checkNoShape(t, over())
}

func TestOneState(t *testing.T) {
	checkChart(t, rules(t, "state a plain"), Chart{Names: []string{"a"}, Shape: shape.Shape{Kinds: []int{api.Plain}, Parents: []int{-1}}})
	checkChart(t, rules(t, "state a all"), Chart{Names: []string{"a"}, Shape: shape.Shape{Kinds: []int{api.All}, Parents: []int{-1}}})
}

const otherKinds = "role r > q;user u r;perm p r;ssd 2 r q;dsd 2 r q;exclusive t s;lend r 1 5"

func TestOtherKindsAlone(t *testing.T) {
	checkNoShape(t, rules(t, otherKinds))
	for _, line := range strings.Split(otherKinds, ";") {
		checkNoShape(t, rules(t, line))
	}
}

const review = "state draft plain;state check all;state law plain in check;state open plain in law;state held plain in law;state back past in law;state deep deep in law;state money plain in check;state end plain;" +
	"on send from draft to check by write task send;auto from held to open;after 30 from check to back;on stop from law to deep;on drop from money to end by kill;on note from open to open task note"

func reviewChart() Chart {
	const p, a, h, d = api.Plain, api.All, api.Past, api.Deep
	return Chart{
		Names: []string{"draft", "check", "law", "open", "held", "back", "deep", "money", "end"},
		Shape: shape.Shape{Kinds: []int{p, a, p, p, p, h, d, p, p}, Parents: []int{-1, -1, 1, 2, 2, 2, 2, 1, -1}},
		Trans: []Trans{
			{Kind: api.On, From: 0, To: 1, Event: "send", Perm: "write", Task: "send"},
			{Kind: api.Auto, From: 4, To: 3},
			{Kind: api.After, From: 1, To: 5, Time: 30},
			{Kind: api.On, From: 2, To: 6, Event: "stop"},
			{Kind: api.On, From: 7, To: 8, Event: "drop", Perm: "kill"},
			{Kind: api.On, From: 3, To: 3, Event: "note", Task: "note"},
		},
	}
}

func TestChart(t *testing.T) {
	l := rules(t, review)
	checkChart(t, l, reviewChart())
	// The Lines have no part in it.
	for i := range l {
		l[i].Line = -i / 2
	}
	checkChart(t, l, reviewChart())
	// Nor has the order of states and transitions among each other: here the transitions come first.
	checkChart(t, over(append(slices.Clone(l[9:]), l[:9]...)...), reviewChart())
	var mixed []api.Rule
	for i := range 9 {
		if i < 6 {
			mixed = append(mixed, l[9+i])
		}
		mixed = append(mixed, l[i])
	}
	checkChart(t, over(mixed...), reviewChart())
}

// The states stand in the order of their rules, not in that of their names or parents; so do the transitions, whatever their kinds.
func TestChartOrder(t *testing.T) {
	l := rules(t, "state b plain;state a all;state y plain in a;state z past in b;state x plain in b;after 1 from x to y;auto from a to b")
	checkChart(t, l, Chart{
		Names: []string{"b", "a", "y", "z", "x"},
		Shape: shape.Shape{Kinds: []int{api.Plain, api.All, api.Plain, api.Past, api.Plain}, Parents: []int{-1, -1, 1, 0, 0}},
		Trans: []Trans{{Kind: api.After, From: 4, To: 2, Time: 1}, {Kind: api.Auto, From: 1, To: 0}},
	})
}

func TestTimes(t *testing.T) {
	for _, n := range []int{1, 2, 999999999} {
		l := over(api.Rule{Kind: api.State, Name: "a", N: api.Plain}, api.Rule{Kind: api.After, N: n, From: "a", To: "a"})
		want := of("p", "")
		want.Names, want.Trans = []string{"a"}, []Trans{{Kind: api.After, Time: n}}
		checkChart(t, l, want)
	}
}

// Rules of other kinds stand anywhere among those of a chart, whatever they say.
func TestOtherKindsAmong(t *testing.T) {
	others := rules(t, otherKinds+";role r;user u no;perm p no;lend no 1 1;exclusive draft check;role draft")
	l := rules(t, review)
	mixed := slices.Clone(others)
	for i, r := range l {
		mixed = append(append(mixed, r), others[i%len(others)])
	}
	checkChart(t, over(mixed...), reviewChart())
	checkFault(t, over(append(slices.Clone(others), api.Rule{Kind: api.State, Name: "x", N: api.Past})...), len(others), api.ErrArg)
	checkNoShape(t, over(append(slices.Clone(others), rules(t, "state a plain;state b past in a")...)...))
}

// A rule that has no line, of any kind, ahead of, between and behind rules that are right, and ones that are wrong.
func TestNoLine(t *testing.T) {
	bad := []api.Rule{
		{}, {Line: 4}, {Kind: 12, Name: "a"}, {Kind: -1},
		{Kind: api.Role}, {Kind: api.Role, Name: "a", List: []string{"a"}}, {Kind: api.User, Name: "A"}, {Kind: api.Perm, Name: "p", N: 1},
		{Kind: api.Ssd, N: 1, List: []string{"a", "b"}}, {Kind: api.Dsd, N: 2}, {Kind: api.Exclusive, List: []string{"a"}}, {Kind: api.Lend, Name: "a"},
		{Kind: api.State, Name: "s"}, {Kind: api.State, Name: "s", N: 5}, {Kind: api.State, Name: "", N: api.Plain}, {Kind: api.State, Name: "s", N: api.Plain, In: "A"}, {Kind: api.State, Name: "s", N: api.Plain, M: 1}, {Kind: api.State, Name: "s", N: api.Plain, List: []string{"x"}},
		{Kind: api.On, Name: "e", From: "a"}, {Kind: api.On, From: "a", To: "a"}, {Kind: api.On, Name: "e", From: "a", To: "a", By: "B"}, {Kind: api.On, Name: "e", From: "a", To: "a", N: 1},
		{Kind: api.Auto, From: "a", To: "a", Name: "e"}, {Kind: api.Auto, From: "a", To: "a", N: 1}, {Kind: api.Auto, From: "a", To: "a", By: "p"}, {Kind: api.Auto, To: "a"},
		{Kind: api.After, From: "a", To: "a"}, {Kind: api.After, From: "a", To: "a", N: -1}, {Kind: api.After, From: "a", To: "a", N: api.MaxTime}, {Kind: api.After, From: "a", To: "a", N: api.MaxTime + 1}, {Kind: api.After, From: "a", To: "a", N: 1, Task: "t"}, {Kind: api.After, From: "a", To: "", N: 1},
	}
	for _, text := range []string{"", otherKinds, "state a plain", "state a plain;state a plain", "state a past;auto from x to y;state b plain in c", "auto from x to y", numbered(api.MaxStates+1, "state a# plain"), review} {
		l := rules(t, text)
		for _, r := range bad {
			for _, at := range []int{0, len(l) / 2, len(l)} {
				checkNoLine(t, over(slices.Insert(slices.Clone(l), at, r)...))
			}
		}
	}
}

func TestStateThere(t *testing.T) {
	checkFault(t, rules(t, "state a plain;state a plain"), 1, api.ErrThere)
	checkFault(t, rules(t, "state a plain;state a all"), 1, api.ErrThere)
	checkFault(t, rules(t, "state a plain;state b plain;state a plain in b"), 2, api.ErrThere)
	checkFault(t, rules(t, "state a plain;state b plain in a;state h past in a;state h deep in a"), 3, api.ErrThere)
	checkFault(t, rules(t, "state a plain;state b plain;state c plain;state b plain;state a plain"), 3, api.ErrThere)
	// With each of the other errors.
	checkFault(t, rules(t, numbered(api.MaxStates, "state a# plain")+";state a7 plain"), api.MaxStates, api.ErrThere)
	checkFault(t, rules(t, "state a plain;state a plain in x"), 1, api.ErrThere)
	checkFault(t, rules(t, "state a plain;state a past"), 1, api.ErrThere)
	checkFault(t, rules(t, "state a all;state b plain;state b deep in a"), 2, api.ErrThere)
	checkFault(t, rules(t, numbered(api.MaxStates, "state a# plain")+";state a0 past in x"), api.MaxStates, api.ErrThere)
	// Names of other things are no names of states.
	checkChart(t, rules(t, "role s0;user s0 s0;perm s0;state s0 plain;on s0 from s0 to s0 by s0 task s0"), Chart{
		Names: []string{"s0"}, Shape: of("p", "").Shape, Trans: []Trans{{Kind: api.On, Event: "s0", Perm: "s0", Task: "s0"}},
	})
}

func TestStateLimit(t *testing.T) {
	most := numbered(api.MaxStates, "state s# plain")
	checkChart(t, rules(t, most), of(strings.Repeat("p ", api.MaxStates), ""))
	checkChart(t, rules(t, numbered(api.MaxStates-1, "state s# all")), of(strings.Repeat("a ", api.MaxStates-1), ""))
	checkChart(t, rules(t, most+";auto from s0 to s23"), of(strings.Repeat("p ", api.MaxStates), "0>23"))
	for _, more := range []string{"state x plain", "state x all in s0", "state x past in s23", "state x deep in s5"} {
		checkFault(t, rules(t, most+";"+more), api.MaxStates, api.ErrLimit)
		checkFault(t, rules(t, most+";"+more+";state y plain;state y plain"), api.MaxStates, api.ErrLimit)
	}
	checkFault(t, rules(t, numbered(100, "state s# plain")), api.MaxStates, api.ErrLimit)
	// With each of the errors behind it.
	checkFault(t, rules(t, most+";state x plain in y"), api.MaxStates, api.ErrLimit)
	checkFault(t, rules(t, most+";state x past"), api.MaxStates, api.ErrLimit)
	checkFault(t, rules(t, most+";state x plain in x"), api.MaxStates, api.ErrLimit)
}

func TestStateNone(t *testing.T) {
	checkFault(t, rules(t, "state a plain in b"), 0, api.ErrNone)
	checkFault(t, rules(t, "state a plain in b;state b plain"), 0, api.ErrNone)
	checkFault(t, rules(t, "state a plain;state c plain in b;state b plain in a"), 1, api.ErrNone)
	checkFault(t, rules(t, "state a plain in a"), 0, api.ErrNone)
	checkFault(t, rules(t, "state a plain;state b all in b"), 1, api.ErrNone)
	checkFault(t, rules(t, "state a plain;state h past in h"), 1, api.ErrNone)
	checkFault(t, rules(t, "role b;state a plain in b"), 1, api.ErrNone)
	checkFault(t, rules(t, "state aa plain;state b plain in a"), 1, api.ErrNone)
	checkFault(t, rules(t, "state a plain;state h past in x"), 1, api.ErrNone)
	checkFault(t, rules(t, "state h deep in x;state x all"), 0, api.ErrNone)
}

func TestStateArg(t *testing.T) {
	for _, kind := range []string{"past", "deep"} {
		checkFault(t, rules(t, "state h "+kind), 0, api.ErrArg)
		checkFault(t, rules(t, "state a plain;state h "+kind), 1, api.ErrArg)
		checkFault(t, rules(t, "state a all;state h "+kind+" in a"), 1, api.ErrArg)
		checkFault(t, rules(t, "state a all;state b plain in a;state h "+kind+" in a"), 2, api.ErrArg)
		checkFault(t, rules(t, "state h "+kind+";state a plain in h"), 0, api.ErrArg)
		for _, kid := range []string{"plain", "all", "past", "deep"} {
			checkFault(t, rules(t, "state a plain;state h "+kind+" in a;state b "+kid+" in h"), 2, api.ErrArg)
			checkFault(t, rules(t, "state a plain;state b plain in a;state h "+kind+" in a;state c "+kid+" in h;state c plain"), 3, api.ErrArg)
		}
	}
	checkChart(t, rules(t, "state s0 plain;state s1 past in s0;state s2 deep in s0;state s3 past in s0;state s4 plain in s0"), of("p h0 d0 h0 p0", ""))
	checkChart(t, rules(t, "state s0 all;state s1 plain in s0;state s2 all in s1;state s3 deep in s1"), of("a p0 a1 d1", ""))
}

func TestTransLimit(t *testing.T) {
	for _, line := range []string{"on e# from a to b", "auto from a to b", "after 7 from b to a"} {
		l := rules(t, "state a plain;state b plain;"+numbered(api.MaxTrans, line))
		for _, n := range []int{api.MaxTrans - 1, api.MaxTrans} {
			c, err := Compile(l[:2+n])
			if err != nil || len(c.Trans) != n || !Valid(c) {
				t.Errorf("%d of %q: %+v, %v", n, line, c, err)
			}
		}
		// With each of the errors behind it.
		for _, more := range []string{"on x from a to a", "auto from b to b", "after 1 from a to b", "auto from x to a", "auto from a to x", "auto from h to a"} {
			checkFault(t, over(append(slices.Clone(l), rules(t, more)...)...), 2+api.MaxTrans, api.ErrLimit)
			checkFault(t, over(append(slices.Clone(l), rules(t, "state h past in a;"+more+";state a plain")...)...), 3+api.MaxTrans, api.ErrLimit)
		}
	}
	// Of all kinds together.
	mixed := numbered(api.MaxTrans/3, "on e# from a to a;auto from a to a;after 1 from a to a")
	checkFault(t, rules(t, "state a plain;"+mixed+";auto from a to a"), 1+api.MaxTrans, api.ErrLimit)
	checkFault(t, rules(t, "state a plain;"+numbered(100, "on e from a to a")), 1+api.MaxTrans, api.ErrLimit)
}

func TestTransNone(t *testing.T) {
	for _, line := range []string{"on e from F to T by p task q", "auto from F to T", "after 5 from F to T"} {
		write := func(from, to string) string {
			return strings.NewReplacer("F", from, "T", to).Replace(line)
		}
		checkFault(t, rules(t, write("a", "a")), 0, api.ErrNone)
		checkFault(t, rules(t, "state a plain;"+write("x", "a")), 1, api.ErrNone)
		checkFault(t, rules(t, "state a plain;"+write("a", "x")), 1, api.ErrNone)
		checkFault(t, rules(t, write("x", "y")+";state a plain"), 0, api.ErrNone)
		checkFault(t, rules(t, "role x;user x;perm x;state a plain;"+write("a", "x")), 4, api.ErrNone)
		checkFault(t, rules(t, "state a plain;on x from a to a;"+write("x", "a")), 2, api.ErrNone)
		// A To that is no state is told ahead of a From that is a Past or a Deep.
		checkFault(t, rules(t, "state a plain;state b plain in a;state h past in a;"+write("h", "x")), 3, api.ErrNone)
		checkFault(t, rules(t, "state a plain;state b plain in a;state h deep in a;"+write("h", "x")), 3, api.ErrNone)
	}
}

func TestTransArg(t *testing.T) {
	for _, kind := range []string{"past", "deep"} {
		states := "state a plain;state b plain in a;state h " + kind + " in a"
		for _, line := range []string{"on e from h to b by p task q", "auto from h to b", "after 5 from h to h"} {
			checkFault(t, rules(t, states+";"+line), 3, api.ErrArg)
			checkFault(t, rules(t, line+";"+states), 0, api.ErrArg)
			checkFault(t, rules(t, "auto from a to h;"+line+";"+states), 1, api.ErrArg)
		}
		c, err := Compile(rules(t, states+";auto from b to h;on e from a to h;after 1 from b to h"))
		if err != nil || !Valid(c) || len(c.Trans) != 3 || c.Trans[0].To != 2 || c.Trans[1].To != 2 || c.Trans[2].To != 2 {
			t.Errorf("to a %s: %+v, %v", kind, c, err)
		}
	}
}

// From and To are states of rules behind the transition, be they right or not; those that are wrong are told at their own place.
func TestLaterStates(t *testing.T) {
	checkChart(t, rules(t, "auto from s1 to s0;state s0 plain;state s1 all"), of("p a", "1>0"))
	checkChart(t, rules(t, "state s0 plain;auto from s0 to s2;state s1 plain;state s2 plain"), of("p p p", "0>2"))
	checkFault(t, rules(t, "auto from a to b;state a plain;state b plain in x"), 2, api.ErrNone)
	checkFault(t, rules(t, "auto from a to b;state a plain;state b past"), 2, api.ErrArg)
	checkFault(t, rules(t, "auto from b to a;state a plain;state b past"), 0, api.ErrArg)
	checkFault(t, rules(t, "auto from s0 to s24;"+numbered(api.MaxStates+1, "state s# plain")), api.MaxStates+1, api.ErrLimit)
	checkFault(t, rules(t, "auto from s90 to s1;"+numbered(100, "state s# plain")), api.MaxStates+1, api.ErrLimit)
	// Of two rules of one name the first is the state's.
	checkFault(t, rules(t, "state p plain;auto from a to a;state a plain in p;state a past in p"), 3, api.ErrThere)
	checkFault(t, rules(t, "state p plain;auto from a to a;state a past in p;state a plain in p"), 1, api.ErrArg)
}

// The first rule that is wrong is told, whatever is wrong with it and with those behind it.
func TestFirstWrongRule(t *testing.T) {
	wrong := []struct {
		line string
		want api.Errno
	}{
		{"state a plain", api.ErrThere}, {"state n plain in none", api.ErrNone}, {"state n past", api.ErrArg},
		{"auto from none to a", api.ErrNone}, {"on e from a to none", api.ErrNone}, {"after 1 from h to a", api.ErrArg},
	}
	for _, first := range wrong {
		for _, second := range wrong {
			text := "state a plain;state b plain in a;state h past in a;auto from a to h;" + first.line + ";role r;" + second.line
			checkFault(t, rules(t, text), 4, first.want)
		}
		// And ahead of states that are no shape.
		checkFault(t, rules(t, "state a plain;state h past in a;"+first.line), 2, first.want)
	}
	most := numbered(api.MaxStates, "state s# plain") + ";" + numbered(api.MaxTrans, "auto from s0 to s1")
	checkFault(t, rules(t, most+";auto from s0 to s1;state x plain"), api.MaxStates+api.MaxTrans, api.ErrLimit)
	checkFault(t, rules(t, most+";state x plain;auto from none to s1"), api.MaxStates+api.MaxTrans, api.ErrLimit)
	checkFault(t, rules(t, most+";state s0 plain;auto from s0 to s1"), api.MaxStates+api.MaxTrans, api.ErrThere)
}

// States that all may be, but one has a Past or a Deep and nothing that a document may be in.
func TestNoShape(t *testing.T) {
	for _, kind := range []string{"past", "deep"} {
		h := "state h " + kind + " in "
		checkNoShape(t, rules(t, "state a plain;"+h+"a"))
		checkNoShape(t, rules(t, "state a plain;state b plain in a;"+h+"b"))
		checkNoShape(t, rules(t, "state a plain;state b plain;"+h+"b;auto from a to h"))
		checkNoShape(t, rules(t, "state a plain;"+h+"a;state i past in a;state d deep in a"))
		checkNoShape(t, rules(t, "state a all;state b plain in a;"+h+"b;state c plain in a"))
	}
	checkNoShape(t, rules(t, "role r;state a plain;user u r;state h past in a;on e from a to h"))
}
