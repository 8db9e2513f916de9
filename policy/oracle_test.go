package policy

import (
	"errors"
	"math/rand"
	"strings"
	"testing"

	"imprimatur/api"
	"imprimatur/rule"
)

// The chapter once more, in another way: the text is gone through byte by byte, and what is wrong is told as a line, a column and a number.

type told struct {
	line, column int
	err          api.Errno
}

func slowParse(text string) (l []api.Rule, bad told) {
	if len(text) > api.MaxText {
		return nil, told{0, 0, api.ErrLimit}
	}
	line, number := "", 1
	for i := 0; i <= len(text); i++ {
		if i < len(text) && text[i] != 10 {
			line += text[i : i+1]
			continue
		}
		r, empty, err := rule.Parse(line, number)
		var f *api.Fault
		switch {
		case errors.As(err, &f):
			return nil, told{f.Line, f.Column, f.Err.(api.Errno)}
		case !empty && len(l) >= api.MaxRules:
			return nil, told{number, 1, api.ErrLimit}
		case !empty:
			l = append(l, r)
		}
		line, number = "", number+1
	}
	return l, told{}
}

// checkSlow holds Parse of a text against slowParse, and what it printed and parsed again against what it was.
func checkSlow(t *testing.T, text string) (err error) {
	t.Helper()
	l, err := Parse(text)
	want, bad := slowParse(text)
	got := told{}
	var f *api.Fault
	if errors.As(err, &f) {
		got = told{f.Line, f.Column, f.Err.(api.Errno)}
	} else if err != nil {
		got.err = err.(api.Errno)
	}
	if got != bad || !equal(l, want) {
		t.Fatalf("Parse(%q) is %+v, %v, not %+v, %v", text, l, got, want, bad)
	}
	if err == nil {
		checkBack(t, l)
	}
	return err
}

// checkBack holds rules of a text, which have lines all of them, against what Print and Parse make of them.
func checkBack(t *testing.T, l []api.Rule) {
	t.Helper()
	var want strings.Builder
	for _, r := range l {
		line, err := rule.Print(r)
		if err != nil {
			t.Fatalf("%+v: %v", r, err)
		}
		want.WriteString(line + "\n")
	}
	text, err := Print(l)
	if len(want.String()) > api.MaxText {
		if text != "" || err != error(api.ErrLimit) {
			t.Fatalf("Print is %q, %v", text, err)
		}
		return
	}
	if text != want.String() || err != nil {
		t.Fatalf("Print is %q, %v, not %q", text, err, want.String())
	}
	back, err := Parse(text)
	if err != nil || len(back) != len(l) {
		t.Fatalf("Parse(%q) is %+v, %v", text, back, err)
	}
	for i := range back {
		back[i].Line = l[i].Line
	}
	if !equal(back, l) {
		t.Fatalf("Parse(%q) is %+v, not %+v", text, back, l)
	}
}

// someText returns a text of good lines, lines without words, and few or no wrong ones.
func someText(random *rand.Rand) string {
	good := []string{"role a", "role a > b", "  user u  a b # c", "perm p", "ssd 2 a b", "dsd 2 a b c", "exclusive x y", "lend r 1 5", "state s plain", "on e from a to b", "auto from a to b", "after 3 from a to b"}
	empty := []string{"", "", " ", "# c", "   #\x00"}
	wrong := []string{"x", "role", "  ssd 1 a b", "role a > a", "\t", "role a\r", "lend r 0 1"}
	of := func(l []string) string { return l[random.Intn(len(l))] }
	odds := []int{0, 1, 30, 300}[random.Intn(4)]
	var lines []string
	for range random.Intn([]int{40, 260, 600}[random.Intn(3)]) {
		switch {
		case odds > 0 && random.Intn(1+odds) == 0:
			lines = append(lines, of(wrong))
		case random.Intn(4) == 0:
			lines = append(lines, of(empty))
		default:
			lines = append(lines, of(good))
		}
	}
	return strings.Join(lines, "\n")
}

func TestParseSomeTexts(t *testing.T) {
	random := rand.New(rand.NewSource(3))
	var fine, long, many, wrong int
	for range 3000 {
		err := checkSlow(t, someText(random))
		switch {
		case err == nil:
			fine++
		case err == error(api.ErrLimit):
			long++
		case errors.Is(err, api.ErrLimit):
			many++
		default:
			wrong++
		}
	}
	// Each of the four ways out is to be among the texts often.
	if min(fine, long, many, wrong) < 100 {
		t.Errorf("%d texts without an error, %d too long, %d with too many rules, %d wrong", fine, long, many, wrong)
	}
}

// All short texts of a few bytes.
func TestParseAllShortTexts(t *testing.T) {
	alphabet := "\n #a\r"
	texts := []string{""}
	for range 7 {
		var longer []string
		for _, text := range texts {
			checkSlow(t, text)
			for i := range alphabet {
				longer = append(longer, text+alphabet[i:i+1])
			}
		}
		texts = longer
	}
}

// Bytes of all sorts: nothing panics, and the answer is that of the other reading.
func FuzzParse(f *testing.F) {
	for _, s := range []string{"", "\n", "role a\nrole b > a\n", "# c\n\nuser u a b\nx", "role a\r\n", strings.Repeat("\n", api.MaxText+1), strings.Repeat("role a\n", api.MaxRules+1)} {
		f.Add(s)
	}
	f.Fuzz(func(t *testing.T, text string) {
		checkSlow(t, text)
	})
}
