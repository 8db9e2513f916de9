package policy

import (
	"strconv"
	"strings"
	"testing"

	"imprimatur/api"
)

// checkText holds Print of rules against a text, and the rules of the text against these.
func checkText(t *testing.T, l []api.Rule, want string) {
	t.Helper()
	text, err := Print(l)
	if text != want || err != nil {
		t.Errorf("Print(%+v) is %q, %v, not %q", l, text, err, want)
	}
	back, err := Parse(text)
	if err != nil || len(back) != len(l) {
		t.Errorf("Parse(%q) is %+v, %v", text, back, err)
		return
	}
	for i, r := range back {
		if r.Line != i+1 {
			t.Errorf("%q: rule %d has the line %d", text, i, r.Line)
		}
		r.Line = l[i].Line
		if !equal([]api.Rule{r}, l[i:i+1]) {
			t.Errorf("%q: rule %d is %+v, not %+v", text, i, r, l[i])
		}
	}
}

// checkRefused tells rules that Print does not refuse as it is to, by a plain number.
func checkRefused(t *testing.T, l []api.Rule, want api.Errno) {
	t.Helper()
	if text, err := Print(l); text != "" || err != error(want) {
		t.Errorf("Print of %d rules is %q, %#v, not %v", len(l), text, err, want)
	}
}

// sized returns a rule whose line has n bytes, with the byte 10 behind it.
func sized(n int) api.Rule {
	rest := n - len("user u\n")
	var l []string
	for i := range rest / 5 {
		l = append(l, strconv.Itoa(1000+i))
	}
	l[len(l)-1] += strings.Repeat("x", rest%5)
	return api.Rule{Kind: api.User, Name: "u", List: l}
}

func roles(n int) (l []api.Rule) {
	for range n {
		l = append(l, role("a", 0))
	}
	return l
}

// noLines returns rules that no line has.
func noLines() []api.Rule {
	return []api.Rule{
		{},
		{Line: 1},
		{Kind: 12},
		{Kind: -1, Name: "a"},
		{Kind: api.Role},
		{Kind: api.Role, Name: "A"},
		{Kind: api.Role, Name: "a\n"},
		{Kind: api.Role, Name: "a\nrole b"},
		{Kind: api.Role, Name: "a # b"},
		{Kind: api.Role, Name: "a", List: []string{"a"}},
		{Kind: api.Role, Name: "a", N: 1},
		{Kind: api.User, Name: "a", List: []string{"b c"}},
		{Kind: api.User, Name: "a", List: []string{"b", "b"}},
		{Kind: api.Ssd, N: 3, List: []string{"a", "b"}},
		{Kind: api.Lend, Name: "a", N: 1, M: api.MaxTime + 1},
		{Kind: api.Auto, From: "a"},
		{Kind: api.After, From: "a", To: "b"},
	}
}

func TestPrintOrdinary(t *testing.T) {
	checkText(t, []api.Rule{role("a", 0)}, "role a\n")
	checkText(t, []api.Rule{
		{Kind: api.State, Name: "s", N: api.Plain, Line: 9},
		{Kind: api.Role, Name: "head", List: []string{"clerk"}, Line: -4},
		{Kind: api.Role, Name: "clerk", Line: 9},
		{Kind: api.User, Name: "ann", List: []string{"head", "clerk"}},
		{Kind: api.On, Name: "go", From: "s", To: "s", By: "p", Task: "t", Line: 1 << 40},
		{Kind: api.Role, Name: "clerk", Line: 9},
	}, "state s plain\nrole head > clerk\nrole clerk\nuser ann head clerk\non go from s to s by p task t\nrole clerk\n")
}

func TestPrintWhatWasParsed(t *testing.T) {
	text := "# c\n\n  role   a  >  b # d\nexclusive  x y\n\nafter 5  from a to b\n#"
	l, err := Parse(text)
	if err != nil {
		t.Fatal(err)
	}
	checkText(t, l, "role a > b\nexclusive x y\nafter 5 from a to b\n")
}

func TestPrintNoRules(t *testing.T) {
	checkText(t, nil, "")
	checkText(t, []api.Rule{}, "")
}

func TestPrintNoLine(t *testing.T) {
	good := roles(3)
	for _, r := range noLines() {
		checkRefused(t, []api.Rule{r}, api.ErrArg)
		for at := range good {
			l := append([]api.Rule{}, good...)
			l[at] = r
			checkRefused(t, l, api.ErrArg)
		}
		checkRefused(t, []api.Rule{r, r}, api.ErrArg)
	}
}

func TestPrintMaxText(t *testing.T) {
	for _, n := range []int{12, 100, api.MaxText - 1, api.MaxText} {
		text, err := Print([]api.Rule{sized(n)})
		if len(text) != n || err != nil {
			t.Errorf("%d bytes, %v, not %d", len(text), err, n)
		}
		checkText(t, []api.Rule{sized(n)}, text)
	}
	for _, n := range []int{api.MaxText + 1, api.MaxText + 2, 2 * api.MaxText, 100000} {
		checkRefused(t, []api.Rule{sized(n)}, api.ErrLimit)
	}
}

// The lines are counted together, with the byte 10 behind each.
func TestPrintMaxTextOfLines(t *testing.T) {
	for _, n := range []int{12, 1000, api.MaxText - 12} {
		l := []api.Rule{sized(n), sized(api.MaxText - n)}
		text, err := Print(l)
		if len(text) != api.MaxText || err != nil {
			t.Errorf("%d bytes, %v", len(text), err)
		}
		l[1] = sized(api.MaxText - n + 1)
		checkRefused(t, l, api.ErrLimit)
	}
	short := sized(api.MaxText - len("role a\n")*(api.MaxRules-1))
	if text, err := Print(append(roles(api.MaxRules-1), short)); len(text) != api.MaxText || err != nil {
		t.Errorf("%d bytes, %v", len(text), err)
	}
}

func TestPrintMaxRules(t *testing.T) {
	checkText(t, roles(api.MaxRules), strings.Repeat("role a\n", api.MaxRules))
	checkText(t, roles(api.MaxRules-1), strings.Repeat("role a\n", api.MaxRules-1))
	for _, n := range []int{api.MaxRules + 1, api.MaxRules + 2, 2 * api.MaxRules, 10000} {
		checkRefused(t, roles(n), api.ErrLimit)
	}
}

// A rule that has no line is told ahead of what is too much, wherever it stands.
func TestPrintFirstError(t *testing.T) {
	for _, r := range noLines() {
		checkRefused(t, append(roles(api.MaxRules), r), api.ErrArg)
		checkRefused(t, append(roles(api.MaxRules+1), r), api.ErrArg)
		checkRefused(t, append(roles(10*api.MaxRules), r), api.ErrArg)
		checkRefused(t, append([]api.Rule{r}, roles(api.MaxRules)...), api.ErrArg)
		checkRefused(t, []api.Rule{sized(api.MaxText + 1), r}, api.ErrArg)
		checkRefused(t, []api.Rule{r, sized(api.MaxText + 1)}, api.ErrArg)
		checkRefused(t, append(append([]api.Rule{sized(api.MaxText)}, roles(api.MaxRules)...), r), api.ErrArg)
	}
	checkRefused(t, append(roles(api.MaxRules+1), sized(api.MaxText+1)), api.ErrLimit)
}

func TestPrintLeavesItsArgument(t *testing.T) {
	lists := []string{"a", "b", "c"}
	kept := []api.Rule{{Kind: api.User, Name: "u", List: lists[:2], Line: 3}, role("x", 4), {Kind: 77}}
	checkText(t, kept[:2], "user u a b\nrole x\n")
	checkRefused(t, kept, api.ErrArg)
	want := []api.Rule{{Kind: api.User, Name: "u", List: []string{"a", "b"}, Line: 3}, role("x", 4), {Kind: 77}}
	if !equal(kept, want) || lists[2] != "c" {
		t.Errorf("Print changed its argument to %+v, %v", kept, lists)
	}
}
