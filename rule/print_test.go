package rule

import (
	"strings"
	"testing"

	"imprimatur/api"
)

// wholeRules returns a rule of each kind in which each field that the kind has stands.
func wholeRules() []api.Rule {
	l := []string{"a", "b", "c"}
	return []api.Rule{
		{Kind: api.Role, Name: "x", List: l},
		{Kind: api.User, Name: "x", List: l},
		{Kind: api.Perm, Name: "x", List: l},
		{Kind: api.Ssd, N: 2, List: l},
		{Kind: api.Dsd, N: 3, List: l},
		{Kind: api.Exclusive, List: l},
		{Kind: api.Lend, Name: "x", N: 3, M: 4},
		{Kind: api.State, Name: "x", N: api.All, In: "p"},
		{Kind: api.On, Name: "x", From: "y", To: "z", By: "p", Task: "q"},
		{Kind: api.Auto, From: "y", To: "z"},
		{Kind: api.After, N: 3, From: "y", To: "z"},
	}
}

// texts returns the places of a rule's names.
func texts(r *api.Rule) map[string]*string {
	return map[string]*string{"Name": &r.Name, "From": &r.From, "To": &r.To, "By": &r.By, "Task": &r.Task, "In": &r.In}
}

func optional(field string) bool {
	return field == "By" || field == "Task" || field == "In"
}

func TestPrintWhatever(t *testing.T) {
	for _, r := range wholeRules() {
		for _, number := range []int{0, 1, -1, 1 << 40, -1 << 40} {
			r.Line = number
			if line, err := Print(r); line == "" || err != nil {
				t.Errorf("Print(%+v) is %q, %v", r, line, err)
			}
		}
	}
}

func TestPrintNoSuchKind(t *testing.T) {
	checkNoLine(t, api.Rule{})
	checkNoLine(t, api.Rule{Line: 5})
	for _, kind := range []int{-1 << 62, -11, -1, 0, 12, 13, 100, 1 << 62} {
		for _, r := range wholeRules() {
			r.Kind = kind
			checkNoLine(t, r)
		}
		checkNoLine(t, api.Rule{Kind: kind})
	}
}

// A name that the kind has may be a name alone, one that it does not have is to be empty.
func TestPrintNames(t *testing.T) {
	wrong := []string{" ", "A", "x y", " x", "x ", "x#", "#", ">", "x\n", "\x00", "\u00e9", "x.y", strings.Repeat("x", api.MaxName+1), "x from y", "x > y", "y to z by p", "p in q", "p task q"}
	for i, whole := range wholeRules() {
		for field, s := range texts(&whole) {
			had := *s
			for _, bad := range wrong {
				*s = bad
				checkNoLine(t, whole)
			}
			switch {
			case had == "":
				*s = "x"
				checkNoLine(t, whole)
			case optional(field):
				*s = ""
				checkLine(t, whole)
			default:
				*s = ""
				checkNoLine(t, whole)
			}
			*s = had
			checkLine(t, whole)
		}
		if want := wholeRules()[i]; !equal(whole, want) {
			t.Errorf("Print changed %+v to %+v", want, whole)
		}
	}
}

// checkLine tells a rule that has no line, or one whose line is not its own.
func checkLine(t *testing.T, r api.Rule) {
	t.Helper()
	line, err := Print(r)
	if err != nil {
		t.Errorf("Print(%+v) tells %v", r, err)
		return
	}
	if got, empty, err := Parse(line, r.Line); !equal(got, r) || empty || err != nil {
		t.Errorf("%q is %+v, %t, %v, not %+v", line, got, empty, err, r)
	}
}

func TestPrintNumbers(t *testing.T) {
	check := func(has bool, r api.Rule) {
		t.Helper()
		if has {
			checkLine(t, r)
		} else {
			checkNoLine(t, r)
		}
	}
	for _, n := range []int{-1 << 62, -1000000000, -2, -1, 0, 1, 2, 3, 4, 5, 999999999, 1000000000, api.MaxTime, 1 << 32, 1 << 62} {
		for _, r := range wholeRules() {
			inN, inM := r, r
			inN.N, inM.M = n, n
			long := n >= 1 && n <= 999999999
			switch r.Kind {
			case api.Ssd, api.Dsd:
				check(n == 2 || n == 3, inN)
			case api.Lend:
				check(long, inN)
				check(long, inM)
				continue
			case api.After:
				check(long, inN)
			case api.State:
				check(n >= 1 && n <= 4, inN)
			default:
				check(n == 0, inN)
			}
			check(n == 0, inM)
		}
	}
}

func TestPrintLoan(t *testing.T) {
	for _, m := range []int{-1 << 62, -1, 0, 1000000000, api.MaxTime, api.MaxTime + 1, 1 << 62} {
		checkNoLine(t, api.Rule{Kind: api.Lend, Name: "r", N: 1, M: m})
		checkNoLine(t, api.Rule{Kind: api.Lend, Name: "r", N: m, M: 1})
	}
}

func TestPrintLists(t *testing.T) {
	for _, r := range wholeRules() {
		has := r.List != nil
		least := map[int]int{api.Ssd: 2, api.Dsd: 3, api.Exclusive: 2}[r.Kind]
		for n, l := range [][]string{nil, {"a"}, {"a", "b"}, {"a", "b", "c"}, {"d", "c", "b", "a"}} {
			r.List = l
			if n == 0 && least == 0 || has && n >= least {
				checkLine(t, r)
			} else {
				checkNoLine(t, r)
			}
		}
		for _, l := range [][]string{{""}, {"a", ""}, {"", "a", "b"}, {"a", "a"}, {"a", "b", "a"}, {"a", "b", "c d"}, {"a", "b", "c#"}, {"a", "b", "C"}, {"a", "b", ">"}, {">", "a", "b"}, {"a", "b", "c", "a"}, {"a", "b", "c\n"}, {"a", "b", strings.Repeat("c", api.MaxName+1)}} {
			r.List = l
			checkNoLine(t, r)
		}
	}
	checkNoLine(t, api.Rule{Kind: api.Role, Name: "a", List: []string{"a"}})
	checkNoLine(t, api.Rule{Kind: api.Role, Name: "a", List: []string{"b", "a"}})
	checkLine(t, api.Rule{Kind: api.User, Name: "a", List: []string{"b", "a"}})
}

// Words of one field that would stand in others: the line has a rule, but not this one.
func TestPrintOtherRule(t *testing.T) {
	checkNoLine(t, api.Rule{Kind: api.Role, Name: "a > b"})
	checkNoLine(t, api.Rule{Kind: api.Role, Name: "a # b"})
	checkNoLine(t, api.Rule{Kind: api.User, Name: "a b"})
	checkNoLine(t, api.Rule{Kind: api.User, List: []string{"a"}})
	checkNoLine(t, api.Rule{Kind: api.User, Name: "x", List: []string{"a b"}})
	checkNoLine(t, api.Rule{Kind: api.Exclusive, List: []string{"a", "b c"}})
	checkNoLine(t, api.Rule{Kind: api.Exclusive, List: []string{"a b"}})
	checkNoLine(t, api.Rule{Kind: api.State, Name: "s", N: api.Plain, In: "p "})
	checkNoLine(t, api.Rule{Kind: api.State, Name: "s plain"})
	checkNoLine(t, api.Rule{Kind: api.On, Name: "e", From: "a", To: "b by p"})
	checkNoLine(t, api.Rule{Kind: api.On, Name: "e", From: "a", To: "b", By: "p task q"})
	checkNoLine(t, api.Rule{Kind: api.On, Name: "e from", From: "a", To: "b"})
	checkNoLine(t, api.Rule{Kind: api.Auto, From: "a to b"})
	checkNoLine(t, api.Rule{Kind: api.Auto, From: "a", To: "b#"})
}
