package rule

import (
	"errors"
	"reflect"
	"strings"
	"testing"

	"imprimatur/api"
)

// checkRule holds Parse(line) against a rule, and Print of the rule against the line's words.
func checkRule(t *testing.T, line string, want api.Rule) {
	t.Helper()
	for _, number := range []int{1, 7, 0, -3} {
		want.Line = number
		r, empty, err := Parse(line, number)
		if !equal(r, want) || empty || err != nil {
			t.Errorf("Parse(%q, %d) is %+v, %t, %v, not %+v", line, number, r, empty, err, want)
		}
		before, _, _ := strings.Cut(line, "#")
		text := strings.Join(strings.Fields(before), " ")
		if got, err := Print(want); got != text || err != nil {
			t.Errorf("Print(%+v) is %q, %v, not %q", want, got, err, text)
		}
	}
}

// checkFault holds the error of Parse(line) against a column and what it wraps.
func checkFault(t *testing.T, line string, column int, want api.Errno) {
	t.Helper()
	for _, number := range []int{1, 9, 0, -4} {
		r, empty, err := Parse(line, number)
		if !reflect.DeepEqual(r, api.Rule{}) || empty {
			t.Errorf("Parse(%q, %d) is %+v, %t beside an error", line, number, r, empty)
		}
		var f *api.Fault
		if !errors.As(err, &f) {
			t.Errorf("Parse(%q, %d) tells %v, no fault", line, number, err)
			continue
		}
		if f.Line != number || f.Column != column || !errors.Is(err, want) {
			t.Errorf("Parse(%q, %d) tells line %d, column %d, %v, not %d, %d, %v", line, number, f.Line, f.Column, f.Err, number, column, want)
		}
	}
}

// checkNoLine tells a rule that Print does not refuse as it is to.
func checkNoLine(t *testing.T, r api.Rule) {
	t.Helper()
	line, err := Print(r)
	if _, plain := err.(api.Errno); line != "" || !plain || !errors.Is(err, api.ErrArg) {
		t.Errorf("Print(%+v) is %q, %v", r, line, err)
	}
}

// equal compares all fields; nil is an empty list.
func equal(a, b api.Rule) bool {
	if len(a.List) == 0 && len(b.List) == 0 {
		a.List, b.List = nil, nil
	}
	return reflect.DeepEqual(a, b)
}

func TestRole(t *testing.T) {
	checkRule(t, "role head > clerk", api.Rule{Kind: api.Role, Name: "head", List: []string{"clerk"}})
	checkRule(t, "role clerk", api.Rule{Kind: api.Role, Name: "clerk"})
	checkRule(t, "role a > b c d", api.Rule{Kind: api.Role, Name: "a", List: []string{"b", "c", "d"}})
	checkRule(t, "role role > user", api.Rule{Kind: api.Role, Name: "role", List: []string{"user"}})
	checkFault(t, "role", 5, api.ErrForm)
	checkFault(t, "role > b", 6, api.ErrForm)
	checkFault(t, "role a >", 9, api.ErrForm)
	checkFault(t, "role a b", 8, api.ErrForm)
	checkFault(t, "role a > > b", 10, api.ErrForm)
	checkFault(t, "role a > b > c", 12, api.ErrForm)
	checkFault(t, "role a >b", 8, api.ErrForm)
	checkFault(t, "role a > B", 10, api.ErrForm)
	checkFault(t, "role A > b", 6, api.ErrForm)
}

func TestUserAndPerm(t *testing.T) {
	for word, kind := range map[string]int{"user": api.User, "perm": api.Perm} {
		checkRule(t, word+" ann", api.Rule{Kind: kind, Name: "ann"})
		checkRule(t, word+" ann clerk", api.Rule{Kind: kind, Name: "ann", List: []string{"clerk"}})
		checkRule(t, word+" ann b a c", api.Rule{Kind: kind, Name: "ann", List: []string{"b", "a", "c"}})
		checkRule(t, word+" ann ann", api.Rule{Kind: kind, Name: "ann", List: []string{"ann"}})
		checkFault(t, word, 5, api.ErrForm)
		checkFault(t, word+" Ann", 6, api.ErrForm)
		checkFault(t, word+" ann > clerk", 10, api.ErrForm)
		checkFault(t, word+" ann clerk b.c", 16, api.ErrForm)
	}
}

func TestSets(t *testing.T) {
	for word, kind := range map[string]int{"ssd": api.Ssd, "dsd": api.Dsd} {
		checkRule(t, word+" 2 a b", api.Rule{Kind: kind, N: 2, List: []string{"a", "b"}})
		checkRule(t, word+" 2 a b c", api.Rule{Kind: kind, N: 2, List: []string{"a", "b", "c"}})
		checkRule(t, word+" 3 c a b", api.Rule{Kind: kind, N: 3, List: []string{"c", "a", "b"}})
		checkRule(t, word+" 2 2 3", api.Rule{Kind: kind, N: 2, List: []string{"2", "3"}})
		checkFault(t, word, 4, api.ErrForm)
		checkFault(t, word+" 2", 6, api.ErrForm)
		checkFault(t, word+" 2 a", 8, api.ErrForm)
		checkFault(t, word+" a b c", 5, api.ErrForm)
		checkFault(t, word+" 02 a b", 5, api.ErrForm)
		checkFault(t, word+" -2 a b", 5, api.ErrForm)
		checkFault(t, word+" 1000000000 a b", 5, api.ErrForm)
		checkFault(t, word+" 2 a >", 9, api.ErrForm)
		checkFault(t, word+" 2 a b C", 11, api.ErrForm)
	}
}

func TestSetsNumber(t *testing.T) {
	for _, word := range []string{"ssd", "dsd"} {
		checkFault(t, word+" 0 a b", 5, api.ErrArg)
		checkFault(t, word+" 1 a b", 5, api.ErrArg)
		checkFault(t, word+" 3 a b", 5, api.ErrArg)
		checkFault(t, word+" 4 a b c", 5, api.ErrArg)
		checkFault(t, word+"   999999999 a b c", 7, api.ErrArg)
		checkFault(t, word+" 1 a a", 5, api.ErrArg)
		checkFault(t, word+" 3 a a", 5, api.ErrArg)
		checkFault(t, word+" 3 a b a", 11, api.ErrArg)
		checkFault(t, word+" 2 a a", 9, api.ErrArg)
	}
}

func TestExclusive(t *testing.T) {
	checkRule(t, "exclusive a b", api.Rule{Kind: api.Exclusive, List: []string{"a", "b"}})
	checkRule(t, "exclusive d c b a", api.Rule{Kind: api.Exclusive, List: []string{"d", "c", "b", "a"}})
	checkRule(t, "exclusive exclusive 2", api.Rule{Kind: api.Exclusive, List: []string{"exclusive", "2"}})
	checkFault(t, "exclusive", 10, api.ErrForm)
	checkFault(t, "exclusive a", 12, api.ErrForm)
	checkFault(t, "exclusive a >", 13, api.ErrForm)
	checkFault(t, "exclusive A b", 11, api.ErrForm)
	checkFault(t, "exclusive a a", 13, api.ErrArg)
}

func TestLend(t *testing.T) {
	checkRule(t, "lend clerk 2 30", api.Rule{Kind: api.Lend, Name: "clerk", N: 2, M: 30})
	checkRule(t, "lend clerk 1 1", api.Rule{Kind: api.Lend, Name: "clerk", N: 1, M: 1})
	checkRule(t, "lend 5 999999999 999999999", api.Rule{Kind: api.Lend, Name: "5", N: 999999999, M: 999999999})
	checkFault(t, "lend", 5, api.ErrForm)
	checkFault(t, "lend clerk", 11, api.ErrForm)
	checkFault(t, "lend clerk 2", 13, api.ErrForm)
	checkFault(t, "lend clerk 2 30 4", 17, api.ErrForm)
	checkFault(t, "lend clerk two 30", 12, api.ErrForm)
	checkFault(t, "lend clerk 2 030", 14, api.ErrForm)
	checkFault(t, "lend > 2 30", 6, api.ErrForm)
	checkFault(t, "lend clerk 0 30", 12, api.ErrArg)
	checkFault(t, "lend clerk 2 0", 14, api.ErrArg)
	checkFault(t, "lend clerk 0 0", 12, api.ErrArg)
}

func TestState(t *testing.T) {
	for word, kind := range map[string]int{"plain": api.Plain, "all": api.All, "past": api.Past, "deep": api.Deep} {
		checkRule(t, "state s "+word, api.Rule{Kind: api.State, Name: "s", N: kind})
		checkRule(t, "state s "+word+" in p", api.Rule{Kind: api.State, Name: "s", N: kind, In: "p"})
		checkRule(t, "state "+word+" "+word+" in in", api.Rule{Kind: api.State, Name: word, N: kind, In: "in"})
		checkRule(t, "state s "+word+" in s", api.Rule{Kind: api.State, Name: "s", N: kind, In: "s"})
		checkFault(t, "state s "+word+" in", 12+len(word), api.ErrForm)
		checkFault(t, "state s "+word+" p", 10+len(word), api.ErrForm)
		checkFault(t, "state s "+word+" in P", 13+len(word), api.ErrForm)
		checkFault(t, "state s "+word+" in p q", 15+len(word), api.ErrForm)
	}
	checkFault(t, "state", 6, api.ErrForm)
	checkFault(t, "state s", 8, api.ErrForm)
	checkFault(t, "state s in p", 9, api.ErrForm)
	checkFault(t, "state s Plain", 9, api.ErrForm)
	checkFault(t, "state s 1", 9, api.ErrForm)
	checkFault(t, "state s plains", 9, api.ErrForm)
	checkFault(t, "state s plain plain", 15, api.ErrForm)
	checkFault(t, "state $ plain", 7, api.ErrForm)
}

func TestOn(t *testing.T) {
	on := api.Rule{Kind: api.On, Name: "go", From: "a", To: "b"}
	checkRule(t, "on go from a to b", on)
	checkRule(t, "on from from from to to", api.Rule{Kind: api.On, Name: "from", From: "from", To: "to"})
	checkRule(t, "on go from a to a", api.Rule{Kind: api.On, Name: "go", From: "a", To: "a"})
	on.By = "sign"
	checkRule(t, "on go from a to b by sign", on)
	on.Task = "check"
	checkRule(t, "on go from a to b by sign task check", on)
	on.By = ""
	checkRule(t, "on go from a to b task check", on)
	on.By, on.Task = "task", "by"
	checkRule(t, "on go from a to b by task task by", on)
}

func TestOnForm(t *testing.T) {
	checkFault(t, "on", 3, api.ErrForm)
	checkFault(t, "on go", 6, api.ErrForm)
	checkFault(t, "on go from", 11, api.ErrForm)
	checkFault(t, "on go from a", 13, api.ErrForm)
	checkFault(t, "on go from a to", 16, api.ErrForm)
	checkFault(t, "on go from a to b by", 21, api.ErrForm)
	checkFault(t, "on go from a to b task", 23, api.ErrForm)
	checkFault(t, "on go from a to b by p task", 28, api.ErrForm)
	checkFault(t, "on go from a to b c", 19, api.ErrForm)
	checkFault(t, "on go from a to b by p q", 24, api.ErrForm)
	checkFault(t, "on go from a to b by p task q r", 31, api.ErrForm)
	checkFault(t, "on go from a to b task q by p", 26, api.ErrForm)
	checkFault(t, "on go from a to b by p by q", 24, api.ErrForm)
	checkFault(t, "on go from a to b task q task r", 26, api.ErrForm)
	checkFault(t, "on go to b from a", 7, api.ErrForm)
	checkFault(t, "on go by p from a to b", 7, api.ErrForm)
	checkFault(t, "on go from a by p to b", 14, api.ErrForm)
	checkFault(t, "on from a to b", 9, api.ErrForm)
	checkFault(t, "on go from a to b By p", 19, api.ErrForm)
	checkFault(t, "on go from a to b by P", 22, api.ErrForm)
	checkFault(t, "on go from a to b task Q", 24, api.ErrForm)
}

func TestAuto(t *testing.T) {
	checkRule(t, "auto from a to b", api.Rule{Kind: api.Auto, From: "a", To: "b"})
	checkRule(t, "auto from to to from", api.Rule{Kind: api.Auto, From: "to", To: "from"})
	checkFault(t, "auto", 5, api.ErrForm)
	checkFault(t, "auto from", 10, api.ErrForm)
	checkFault(t, "auto from a", 12, api.ErrForm)
	checkFault(t, "auto from a to", 15, api.ErrForm)
	checkFault(t, "auto go from a to b", 6, api.ErrForm)
	checkFault(t, "auto from a to b by p", 18, api.ErrForm)
	checkFault(t, "auto from a to b task q", 18, api.ErrForm)
	checkFault(t, "auto from a b", 13, api.ErrForm)
}

func TestAfter(t *testing.T) {
	checkRule(t, "after 5 from a to b", api.Rule{Kind: api.After, N: 5, From: "a", To: "b"})
	checkRule(t, "after 1 from a to a", api.Rule{Kind: api.After, N: 1, From: "a", To: "a"})
	checkRule(t, "after 999999999 from a to b", api.Rule{Kind: api.After, N: 999999999, From: "a", To: "b"})
	checkFault(t, "after", 6, api.ErrForm)
	checkFault(t, "after 5", 8, api.ErrForm)
	checkFault(t, "after 5 from a to", 18, api.ErrForm)
	checkFault(t, "after from a to b", 7, api.ErrForm)
	checkFault(t, "after 05 from a to b", 7, api.ErrForm)
	checkFault(t, "after 5 from a to b by p", 21, api.ErrForm)
	checkFault(t, "after 0 from a to b", 7, api.ErrArg)
}

// MaxTime has ten digits and a number nine at most: what a line can say of a time is below MaxTime, all else has not its form.
func TestMaxTime(t *testing.T) {
	for _, s := range []string{"1073741823", "1073741824", "1073741825", "9999999999"} {
		checkFault(t, "after "+s+" from a to b", 7, api.ErrForm)
		checkFault(t, "lend r 1 "+s, 10, api.ErrForm)
	}
	for _, n := range []int{api.MaxTime - 1, api.MaxTime, api.MaxTime + 1, 1000000000} {
		checkNoLine(t, api.Rule{Kind: api.After, N: n, From: "a", To: "b"})
		checkNoLine(t, api.Rule{Kind: api.Lend, Name: "r", N: 1, M: n})
	}
	if isTime(0) || !isTime(1) || !isTime(api.MaxTime) || isTime(api.MaxTime+1) {
		t.Error("a time is from 1 to MaxTime")
	}
}

// Each word of a list once more at each place behind it.
func TestAgain(t *testing.T) {
	for _, start := range []string{"role x > ", "user x ", "perm x ", "ssd 2 ", "dsd 2 ", "exclusive "} {
		list := []string{"a", "bb", "ccc", "dddd"}
		for i := range list {
			for j := i + 1; j <= len(list); j++ {
				l := append(append(append([]string{}, list[:j]...), list[i]), list[j:]...)
				line := start + strings.Join(l, "  ")
				checkFault(t, line, len(start+strings.Join(l[:j], "  "))+3, api.ErrArg)
			}
		}
	}
}

func TestAgainFirst(t *testing.T) {
	checkFault(t, "user x a b b a", 12, api.ErrArg)
	checkFault(t, "user x a a a", 10, api.ErrArg)
	checkFault(t, "role a > a", 10, api.ErrArg)
	checkFault(t, "role a > b a b", 12, api.ErrArg)
	checkFault(t, "role a > b b a", 12, api.ErrArg)
	checkFault(t, "role a > b c d a", 16, api.ErrArg)
	// Names are alike only if all their bytes are.
	checkRule(t, "user x a aa a_ a- _a", api.Rule{Kind: api.User, Name: "x", List: []string{"a", "aa", "a_", "a-", "_a"}})
}

// A line that has not its form is told so, though a word ahead is wrong.
func TestFormBeforeWrong(t *testing.T) {
	checkFault(t, "ssd 1 a", 8, api.ErrForm)
	checkFault(t, "ssd 0 a a >", 11, api.ErrForm)
	checkFault(t, "user x a a B", 12, api.ErrForm)
	checkFault(t, "role a > a >", 12, api.ErrForm)
	checkFault(t, "lend r 0", 9, api.ErrForm)
	checkFault(t, "lend r 0 x", 10, api.ErrForm)
	checkFault(t, "lend r 0 0 0", 12, api.ErrForm)
	checkFault(t, "after 0 from a to", 18, api.ErrForm)
	checkFault(t, "exclusive a a b.c", 15, api.ErrForm)
}

func TestEmpty(t *testing.T) {
	for _, line := range []string{"", " ", "     ", "#", "# role a", "   #", "#\x00\xff", "  # \t"} {
		for _, number := range []int{1, 8, 0, -1} {
			r, empty, err := Parse(line, number)
			if !reflect.DeepEqual(r, api.Rule{}) || !empty || err != nil {
				t.Errorf("Parse(%q, %d) is %+v, %t, %v", line, number, r, empty, err)
			}
		}
	}
}

func TestBlanksAndComment(t *testing.T) {
	checkRule(t, "  role   a  >   b  ", api.Rule{Kind: api.Role, Name: "a", List: []string{"b"}})
	checkRule(t, "role a # > b", api.Rule{Kind: api.Role, Name: "a"})
	checkRule(t, "user x a#b \x00", api.Rule{Kind: api.User, Name: "x", List: []string{"a"}})
	checkFault(t, "  role   ", 7, api.ErrForm)
	checkFault(t, "  role   # a", 7, api.ErrForm)
	checkFault(t, "role# a", 5, api.ErrForm)
	checkFault(t, "   on   go   from  a  to  #b", 25, api.ErrForm)
	checkFault(t, "   ssd   2   a  #", 15, api.ErrForm)
	checkFault(t, "   ssd   1   a  b #", 10, api.ErrArg)
}

func TestBadByte(t *testing.T) {
	checkFault(t, "\t", 1, api.ErrForm)
	checkFault(t, "role a\n", 7, api.ErrForm)
	checkFault(t, "role \x7f a \x00", 6, api.ErrForm)
	checkFault(t, "rol \x80", 5, api.ErrForm)
	checkFault(t, "ssd 1 a a\r", 10, api.ErrForm)
	checkFault(t, "role a > \u00e9 # c", 10, api.ErrForm)
	checkFault(t, "  \x1f#", 3, api.ErrForm)
	for i := 0; i < 256; i++ {
		if i < 32 || i > 126 {
			checkFault(t, "nothing "+string([]byte{byte(i)}), 9, api.ErrForm)
		}
	}
}

func TestNoSuchKind(t *testing.T) {
	for _, line := range []string{"roles a", "rol a", "Role a", "1 a", ">", "role> a", "from a to b", "by p", "plain", "!", "states s plain", "in", "task"} {
		checkFault(t, line, 1, api.ErrForm)
		checkFault(t, "   "+line+" # a", 4, api.ErrForm)
	}
}

func TestNameLength(t *testing.T) {
	most, more := strings.Repeat("n", api.MaxName), strings.Repeat("n", api.MaxName+1)
	for _, line := range []string{"role @", "role a > @", "user @ b", "user a @", "perm @", "perm a @", "ssd 2 a @", "dsd 2 @ a", "exclusive a @", "lend @ 1 1", "state @ all", "state s all in @", "on @ from a to b", "on e from @ to b", "on e from a to @ by p", "on e from a to b by @", "on e from a to b task @", "auto from @ to b", "auto from a to @", "after 1 from @ to b", "after 1 from a to @"} {
		column := strings.Index(line, "@") + 1
		good := strings.Replace(line, "@", most, 1)
		if r, _, err := Parse(good, 1); err != nil || r.Kind == 0 {
			t.Errorf("Parse(%q) tells %v", good, err)
		}
		checkFault(t, strings.Replace(line, "@", more, 1), column, api.ErrForm)
		for _, bad := range []string{"N", "n.n", ">", "(n)", "n,"} {
			checkFault(t, strings.Replace(line, "@", bad, 1), column, api.ErrForm)
		}
	}
}

func TestLongLists(t *testing.T) {
	const many = 100000
	l := make([]string, many)
	for i := range l {
		l[i] = "n" + strings.Repeat("x", i%3) + string([]byte{byte('a' + i%26), byte('a' + i/26%26), byte('a' + i/676%26), byte('a' + i/17576%26)})
	}
	for _, start := range []string{"role a > ", "user a ", "ssd 100000 ", "exclusive "} {
		line := start + strings.Join(l, " ")
		r, _, err := Parse(line, 1)
		if err != nil || len(r.List) != many || r.List[many-1] != l[many-1] {
			t.Fatalf("a list of %d: %d, %v", many, len(r.List), err)
		}
		if got, err := Print(r); got != line || err != nil {
			t.Errorf("a list of %d is not printed: %v", many, err)
		}
		if start != "ssd 100000 " {
			checkFault(t, line+" "+l[0], len(line)+2, api.ErrArg)
		}
	}
}

// Whoever changes an answer changes no later one, and nothing is written behind an argument's list (R4).
func TestMemory(t *testing.T) {
	for _, line := range []string{"role x > a b", "user x a b", "perm x a b", "ssd 2 a b", "dsd 2 a b", "exclusive a b"} {
		first, _, _ := Parse(line, 1)
		second, _, _ := Parse(line, 1)
		first.List[0] = "other"
		_ = append(first.List[:1], "more")
		if !reflect.DeepEqual(second.List, []string{"a", "b"}) {
			t.Errorf("%q: the second answer became %v", line, second.List)
		}
		if third, _, _ := Parse(line, 1); !equal(second, third) {
			t.Errorf("%q: a later answer is %v", line, third)
		}
		kept := []string{"a", "b", "c", "d"}
		second.List = kept[:2]
		if got, err := Print(second); got != line || err != nil {
			t.Errorf("Print is %q, %v, not %q", got, err, line)
		}
		if !reflect.DeepEqual(kept, []string{"a", "b", "c", "d"}) {
			t.Errorf("%q: Print changed its argument to %v", line, kept)
		}
	}
}

func TestEmptyListIsNil(t *testing.T) {
	for _, l := range [][]string{nil, {}, make([]string, 0, 4)} {
		for line, kind := range map[string]int{"role a": api.Role, "user a": api.User, "perm a": api.Perm} {
			if got, err := Print(api.Rule{Kind: kind, Name: "a", List: l}); got != line || err != nil {
				t.Errorf("Print is %q, %v, not %q", got, err, line)
			}
		}
		if got, err := Print(api.Rule{Kind: api.Auto, From: "a", To: "b", List: l}); got != "auto from a to b" || err != nil {
			t.Errorf("Print is %q, %v", got, err)
		}
	}
}
