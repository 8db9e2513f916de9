package policy

import (
	"errors"
	"reflect"
	"strings"
	"testing"

	"imprimatur/api"
	"imprimatur/rule"
)

// plainLists returns the rules with each empty list as nil, which are the same.
func plainLists(l []api.Rule) (plain []api.Rule) {
	for _, r := range l {
		if len(r.List) == 0 {
			r.List = nil
		}
		plain = append(plain, r)
	}
	return plain
}

// equal compares all fields of all rules; nil is an empty list.
func equal(a, b []api.Rule) bool {
	return reflect.DeepEqual(plainLists(a), plainLists(b))
}

// checkRules holds Parse(text) against rules.
func checkRules(t *testing.T, text string, want ...api.Rule) {
	t.Helper()
	if l, err := Parse(text); !equal(l, want) || err != nil {
		t.Errorf("Parse(%q) is %+v, %v, not %+v", text, l, err, want)
	}
}

// checkFault holds the error of Parse(text) against a place and what it wraps.
func checkFault(t *testing.T, text string, line, column int, want api.Errno) {
	t.Helper()
	l, err := Parse(text)
	var f *api.Fault
	if !errors.As(err, &f) || len(l) > 0 {
		t.Errorf("Parse(%q) is %+v, %v, no fault alone", text, l, err)
		return
	}
	if f.Line != line || f.Column != column || !errors.Is(err, want) {
		t.Errorf("Parse(%q) tells line %d, column %d, %v, not %d, %d, %v", text, f.Line, f.Column, f.Err, line, column, want)
	}
}

// checkTooLong tells a text that is not refused for its length, by a plain number.
func checkTooLong(t *testing.T, text string) {
	t.Helper()
	if l, err := Parse(text); len(l) > 0 || err != error(api.ErrLimit) {
		t.Errorf("Parse of %d bytes is %+v, %#v", len(text), l, err)
	}
}

func role(name string, line int) api.Rule {
	return api.Rule{Kind: api.Role, Name: name, Line: line}
}

// filled returns the text with a comment behind it that makes it n bytes long.
func filled(text string, n int) string {
	return text + "#" + strings.Repeat("x", n-len(text)-1)
}

func TestParseOrdinary(t *testing.T) {
	text := `# who
role clerk
role head > clerk

  user ann   head # and clerk
   # what
perm sign head
ssd 2 head clerk
lend head 2 30
state draft plain
on go from draft to draft by sign task check
`
	checkRules(t, text,
		role("clerk", 2),
		api.Rule{Kind: api.Role, Name: "head", List: []string{"clerk"}, Line: 3},
		api.Rule{Kind: api.User, Name: "ann", List: []string{"head"}, Line: 5},
		api.Rule{Kind: api.Perm, Name: "sign", List: []string{"head"}, Line: 7},
		api.Rule{Kind: api.Ssd, N: 2, List: []string{"head", "clerk"}, Line: 8},
		api.Rule{Kind: api.Lend, Name: "head", N: 2, M: 30, Line: 9},
		api.Rule{Kind: api.State, Name: "draft", N: api.Plain, Line: 10},
		api.Rule{Kind: api.On, Name: "go", From: "draft", To: "draft", By: "sign", Task: "check", Line: 11},
	)
}

func TestParseAllKinds(t *testing.T) {
	text := "after 5 from a to b\nauto from a to b\non e from a to b\nstate s deep in p\nlend r 1 2\nexclusive t u\ndsd 2 a b\nssd 2 a b\nperm p\nuser u\nrole r"
	l, err := Parse(text)
	if len(l) != 11 || err != nil {
		t.Fatalf("%d rules, %v", len(l), err)
	}
	for i, r := range l {
		if r.Kind != 11-i || r.Line != i+1 {
			t.Errorf("rule %d has the kind %d and the line %d", i, r.Kind, r.Line)
		}
	}
}

func TestParseNoRules(t *testing.T) {
	for _, text := range []string{"", "\n", "\n\n\n", "   ", " \n  ", "#", "# role a", "#\n#\n", "\n # a\n  \n#\x00\xff\t\r"} {
		checkRules(t, text)
	}
}

func TestParseLastLine(t *testing.T) {
	checkRules(t, "role a", role("a", 1))
	checkRules(t, "role a\n", role("a", 1))
	checkRules(t, "role a\n\n", role("a", 1))
	checkRules(t, "role a\nrole b", role("a", 1), role("b", 2))
	checkRules(t, "role a\nrole b\n", role("a", 1), role("b", 2))
	checkRules(t, "role a\n  ", role("a", 1))
	checkRules(t, "role a\n# b", role("a", 1))
	checkFault(t, "role a\nrole", 2, 5, api.ErrForm)
	checkFault(t, "role a\nrole\n", 2, 5, api.ErrForm)
	checkFault(t, "role a\nx", 2, 1, api.ErrForm)
}

func TestParseLinesAreCounted(t *testing.T) {
	checkRules(t, "\nrole a", role("a", 2))
	checkRules(t, "\n\n\nrole a\n\nrole b\n", role("a", 4), role("b", 6))
	checkRules(t, "  \n# c\n #\nrole a # c\n#role x\nrole b", role("a", 4), role("b", 6))
	for n := range 100 {
		for _, line := range []string{"\n", "  \n", "# role x\n", "role x\n"} {
			l, err := Parse(strings.Repeat(line, n) + "role last")
			if err != nil || l[len(l)-1].Line != n+1 || l[len(l)-1].Name != "last" {
				t.Errorf("behind %d lines %q: %+v, %v", n, line, l, err)
			}
		}
		checkFault(t, strings.Repeat("# c\n\n", n)+"  no\n", 2*n+1, 3, api.ErrForm)
	}
}

// A line is ended by byte 10 alone, and a comment by the end of its line.
func TestParseLineEnd(t *testing.T) {
	checkRules(t, "role a # b\nrole c", role("a", 1), role("c", 2))
	checkRules(t, "role a# \r\nrole c", role("a", 1), role("c", 2))
	checkFault(t, "role a\r\nrole b\r\n", 1, 7, api.ErrForm)
	checkFault(t, "role a\n\rrole b", 2, 1, api.ErrForm)
	for i := range 256 {
		b := string([]byte{byte(i)})
		switch text := "role a" + b + "role b"; {
		case i == '\n':
			checkRules(t, text, role("a", 1), role("b", 2))
		case i == '#':
			checkRules(t, text, role("a", 1))
		case i < 32 || i > 126:
			checkFault(t, text, 1, 7, api.ErrForm)
		case i == ' ':
			checkFault(t, text, 1, 8, api.ErrForm)
		default:
			l, err := Parse(text)
			if len(l) > 0 || err == nil {
				t.Errorf("Parse(%q) is %+v, %v", text, l, err)
			}
		}
	}
}

func TestParseWrongBytes(t *testing.T) {
	for _, b := range []string{"\x00", "\x01", "\t", "\v", "\f", "\r", "\x1f", "\x7f", "\x80", "\xff", "\u00e9", "\u2028"} {
		checkFault(t, b, 1, 1, api.ErrForm)
		checkFault(t, "role a\n"+b, 2, 1, api.ErrForm)
		checkFault(t, "role a\n  "+b+"\n", 2, 3, api.ErrForm)
		checkFault(t, "# c\n\nrole a\nrole b"+b+"\nrole c", 4, 7, api.ErrForm)
		checkRules(t, "role a\n#"+b+"\nrole b #"+b, role("a", 1), role("b", 3))
	}
}

// The error of a line is rule.Parse's.
func TestParseWrongLines(t *testing.T) {
	checkFault(t, "role A", 1, 6, api.ErrForm)
	checkFault(t, "role a\n\n  ssd 1 a b\n", 3, 7, api.ErrArg)
	checkFault(t, "user u a\nuser v a b a\n", 2, 12, api.ErrArg)
	checkFault(t, "# c\nlend r 0 0", 2, 8, api.ErrArg)
	checkFault(t, "role a > a\n", 1, 10, api.ErrArg)
	checkFault(t, "role a\nb\n", 2, 1, api.ErrForm)
	checkFault(t, "role a >\nb\n", 1, 9, api.ErrForm)
	for _, line := range []string{"x", "role", "ssd 2 a a", "after 0 from a to b", "state s odd", "\t"} {
		_, _, err := rule.Parse(line, 3)
		var f *api.Fault
		if !errors.As(err, &f) {
			t.Fatalf("%q: %v", line, err)
		}
		checkFault(t, "role a\n#\n"+line+"\nrole b", f.Line, f.Column, f.Err.(api.Errno))
	}
}

func TestParseFirstError(t *testing.T) {
	checkFault(t, "role a\nlend r 0 1\nx\n\t", 2, 8, api.ErrArg)
	checkFault(t, "role a\nx\nlend r 0 1\n", 2, 1, api.ErrForm)
	checkFault(t, "\n\n   x\n\x00\nrole", 3, 4, api.ErrForm)
	checkFault(t, "user u a a\nrole a > a", 1, 10, api.ErrArg)
	checkFault(t, "role ok\n"+strings.Repeat("x\n", 400), 2, 1, api.ErrForm)
}

func TestParseMaxText(t *testing.T) {
	checkRules(t, filled("role a ", api.MaxText), role("a", 1))
	checkRules(t, filled("role a\n\nrole b\n", api.MaxText), role("a", 1), role("b", 3))
	checkRules(t, strings.Repeat("\n", api.MaxText))
	checkRules(t, strings.Repeat(" ", api.MaxText))
	checkRules(t, strings.Repeat("\n", api.MaxText-6)+"role a", role("a", api.MaxText-5))
	checkRules(t, strings.Repeat("\n", api.MaxText-7)+"role a\n", role("a", api.MaxText-6))
	checkFault(t, strings.Repeat("\n", api.MaxText-1)+"x", api.MaxText, 1, api.ErrForm)
	checkFault(t, strings.Repeat(" ", api.MaxText-1)+"x", 1, api.MaxText, api.ErrForm)
	for _, n := range []int{api.MaxText + 1, api.MaxText + 2, 2 * api.MaxText, 1 << 20} {
		checkTooLong(t, filled("role a ", n))
		checkTooLong(t, filled("role a\n\nrole b\n", n))
		checkTooLong(t, strings.Repeat("\n", n))
		checkTooLong(t, strings.Repeat(" ", n))
	}
}

// A text that is too long is told so, whatever its lines are.
func TestParseTooLongFirst(t *testing.T) {
	checkTooLong(t, filled("x\n", api.MaxText+1))
	checkTooLong(t, filled("\x00", api.MaxText+1))
	checkTooLong(t, filled("role a > a\n", api.MaxText+1))
	checkTooLong(t, strings.Repeat("\xff", api.MaxText+1))
	checkTooLong(t, filled(strings.Repeat("role a\n", api.MaxRules+1), api.MaxText+1))
	checkFault(t, filled("x\n", api.MaxText), 1, 1, api.ErrForm)
	checkFault(t, strings.Repeat("\xff", api.MaxText), 1, 1, api.ErrForm)
	checkFault(t, filled(strings.Repeat("role a\n", api.MaxRules+1), api.MaxText), api.MaxRules+1, 1, api.ErrLimit)
}

func TestParseMaxRules(t *testing.T) {
	most := strings.Repeat("role a\n", api.MaxRules)
	var want []api.Rule
	for i := range api.MaxRules {
		want = append(want, role("a", i+1))
	}
	for _, rest := range []string{"", "\n", "\n\n   \n", "# role b", "  # role b\n", "\n\n#\n  "} {
		checkRules(t, most+rest, want...)
	}
	checkRules(t, strings.TrimSuffix(most, "\n"), want...)
	checkFault(t, most+"role b", api.MaxRules+1, 1, api.ErrLimit)
	checkFault(t, most+"role b\n", api.MaxRules+1, 1, api.ErrLimit)
	checkFault(t, most+"    role b\n", api.MaxRules+1, 1, api.ErrLimit)
	checkFault(t, most+"\n\n# c\n  \n   auto from a to b # d\n", api.MaxRules+5, 1, api.ErrLimit)
	checkFault(t, "\n# c\n"+most+"\nrole b", api.MaxRules+4, 1, api.ErrLimit)
	checkFault(t, strings.Repeat("role a\n\n", api.MaxRules+1), 2*api.MaxRules+1, 1, api.ErrLimit)
}

// Rules are counted, not lines.
func TestParseManyLines(t *testing.T) {
	l, err := Parse(strings.Repeat("# c\n\nrole a\n", api.MaxRules))
	if err != nil || len(l) != api.MaxRules || l[api.MaxRules-1].Line != 3*api.MaxRules {
		t.Errorf("%d rules, %v", len(l), err)
	}
}

// A wrong line has no rule: behind MaxRules rules it is told as it is elsewhere.
func TestParseWrongBehindMaxRules(t *testing.T) {
	most := strings.Repeat("role a\n", api.MaxRules)
	line := api.MaxRules + 1
	checkFault(t, most+"  x", line, 3, api.ErrForm)
	checkFault(t, most+"role", line, 5, api.ErrForm)
	checkFault(t, most+"role b\t", line, 7, api.ErrForm)
	checkFault(t, most+"ssd 1 a b\n", line, 5, api.ErrArg)
	checkFault(t, most+"\n\nuser u b b\nrole c", line+2, 10, api.ErrArg)
	checkFault(t, most+"x\nrole b", line, 1, api.ErrForm)
	checkFault(t, most+"role b\n  x", line, 1, api.ErrLimit)
	checkFault(t, "  x\n"+most+"role b", 1, 3, api.ErrForm)
	checkFault(t, strings.Replace(most, "role a\nrole a\n", "role a\nlend r 0 1\n", 1)+"role b\nrole c", 2, 8, api.ErrArg)
}

// Whoever changes an answer changes no other one.
func TestParseMemory(t *testing.T) {
	text := "user u a b\nuser v a b\n"
	first, _ := Parse(text)
	second, _ := Parse(text)
	first[0].List[0] = "other"
	_ = append(first[0].List[:2], "more")
	_ = append(first[:1], role("more", 1))
	want := []api.Rule{{Kind: api.User, Name: "u", List: []string{"a", "b"}, Line: 1}, {Kind: api.User, Name: "v", List: []string{"a", "b"}, Line: 2}}
	if !equal(second, want) {
		t.Errorf("the second answer became %+v", second)
	}
	checkRules(t, text, want...)
}
