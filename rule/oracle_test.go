package rule

import (
	"errors"
	"regexp"
	"strings"
	"testing"

	"imprimatur/api"
)

// The chapter once more, in another way: the forms of api's remarks are written out in full, and a line is held against each of them.

var (
	nameForm   = regexp.MustCompile(`^[a-z0-9_-]{1,12}$`)
	numberForm = regexp.MustCompile(`^(0|[1-9][0-9]{0,8})$`)
)

// allForms returns all forms of lines with lists of up to most names: N is a name, # a number.
func allForms(most int) (l [][]string) {
	add := func(form string) {
		l = append(l, strings.Fields(form))
	}
	for n := 0; n <= most; n++ {
		list := strings.Repeat(" N", n)
		if n > 0 {
			add("role N >" + list)
		}
		add("user N" + list)
		add("perm N" + list)
		if n > 1 {
			add("ssd #" + list)
			add("dsd #" + list)
			add("exclusive" + list)
		}
	}
	for _, form := range []string{"role N", "lend N # #", "auto from N to N", "after # from N to N", "on N from N to N", "on N from N to N by N", "on N from N to N task N", "on N from N to N by N task N"} {
		add(form)
	}
	for _, kind := range []string{"plain", "all", "past", "deep"} {
		add("state N " + kind)
		add("state N " + kind + " in N")
	}
	return l
}

func slotFits(slot, word string) bool {
	switch slot {
	case "N":
		return nameForm.MatchString(word)
	case "#":
		return numberForm.MatchString(word)
	}
	return slot == word
}

// fitting returns how many words of a line fit a form, and whether the line has it.
func fitting(form, line []string) (n int, whole bool) {
	for n < len(form) && n < len(line) && slotFits(form[n], line[n]) {
		n++
	}
	return n, n == len(form) && n == len(line)
}

// slowParse returns which word of a line is at fault (len(line): one is missing) and how, 0 if none is.
func slowParse(forms [][]string, line []string) (at int, err api.Errno) {
	for _, form := range forms {
		n, whole := fitting(form, line)
		if whole {
			return slowWrong(line)
		}
		at = max(at, n)
	}
	return at, api.ErrForm
}

func slowWrong(line []string) (at int, err api.Errno) {
	list := map[string]int{"role": 3, "user": 2, "perm": 2, "ssd": 2, "dsd": 2, "exclusive": 1}
	zero := map[string]string{"lend": "  00", "after": " 0"}
	small := map[string]bool{"0": true, "1": true}
	first := line[0]
	for i, w := range line {
		if i < len(zero[first]) && zero[first][i:i+1] == w {
			return i, api.ErrArg
		}
		if strings.HasSuffix(first, "sd") && i == 1 && (small[w] || w > slowDigit(len(line)-2)) {
			return i, api.ErrArg
		}
		for j := list[first]; j > 0 && j < i; j++ {
			if line[j] == w {
				return i, api.ErrArg
			}
		}
		if first == "role" && i > 2 && w == line[1] {
			return i, api.ErrArg
		}
	}
	return 0, 0
}

func slowDigit(n int) string {
	return string([]byte{'0' + byte(n)})
}

// checkWords holds Parse of a line against slowParse, and a good line against Print.
func checkWords(t *testing.T, forms [][]string, line []string) {
	t.Helper()
	text := strings.Join(line, "  ")
	r, empty, err := Parse(text, 3)
	at, want := slowParse(forms, line)
	if want == 0 {
		got, printErr := Print(r)
		if err != nil || empty || r.Line != 3 || printErr != nil || got != strings.Join(line, " ") {
			t.Fatalf("Parse(%q) is %+v, %t, %v, printed %q, %v", text, r, empty, err, got, printErr)
		}
		return
	}
	column := len(text) + 1
	if at < len(line) {
		column = len(strings.Join(append(line[:at:at], ""), "  ")) + 1
	}
	var f *api.Fault
	if !errors.As(err, &f) || f.Line != 3 || f.Column != column || !errors.Is(err, want) || empty || !equal(r, api.Rule{}) {
		t.Fatalf("Parse(%q) tells %+v, %v, not column %d, %v", text, f, err, column, want)
	}
}

// variants calls f with all lines that have another word, one more, or one less.
func variants(line, others []string, f func(line []string)) {
	for i := 0; i <= len(line); i++ {
		for _, w := range others {
			f(append(append(append([]string{}, line[:i]...), w), line[i:]...))
			if i < len(line) {
				f(append(append(append([]string{}, line[:i]...), w), line[i+1:]...))
			}
		}
		if i < len(line) && len(line) > 1 {
			f(append(append([]string{}, line[:i]...), line[i+1:]...))
		}
	}
}

func TestNearAllForms(t *testing.T) {
	forms := allForms(12)
	others := []string{"a", "b", "2", "3", "0", "1", ">", "from", "to", "by", "task", "in", "plain", "deep", "role", "user", "ssd", "on", "after", "A", "01"}
	lines := 0
	check := func(line []string) {
		lines++
		checkWords(t, forms, line)
	}
	for _, form := range allForms(3) {
		line := filled(form)
		check(line)
		for n := 1; n < len(line); n++ {
			check(line[:n])
		}
		variants(line, others, func(near []string) {
			check(near)
			if lines%5 == 0 {
				variants(near, others[:12], check)
			}
		})
	}
	if lines < 100000 {
		t.Errorf("%d lines only", lines)
	}
}

// filled returns a line of a form.
func filled(form []string) (line []string) {
	names := []string{"a", "b", "c", "d", "e"}
	for _, slot := range form {
		switch slot {
		case "N":
			line = append(line, names[0])
			names = names[1:]
		case "#":
			line = append(line, "2")
		default:
			line = append(line, slot)
		}
	}
	return line
}

// All lines of few words.
func TestAllShortLines(t *testing.T) {
	forms := allForms(4)
	alphabet := []string{"role", "user", "perm", "ssd", "dsd", "exclusive", "lend", "state", "on", "auto", "after", "from", "to", "in", ">", "all", "past", "a", "0", "1", "2", "+"}
	lines := [][]string{{}}
	for range 4 {
		var longer [][]string
		for _, line := range lines {
			for _, w := range alphabet {
				next := append(line[:len(line):len(line)], w)
				checkWords(t, forms, next)
				longer = append(longer, next)
			}
		}
		lines = longer
	}
}

// Bytes of all sorts: nothing panics, and a rule that is read is the rule of the line that it is printed as.
func FuzzParse(f *testing.F) {
	for _, s := range []string{"", " ", "role a > b", "ssd 2 a b # c", "on e from a to b by p task q", "state s deep in p", "\x00", "lend r 1 \xff", "after 999999999 from a to b"} {
		f.Add(s, 1)
	}
	f.Fuzz(func(t *testing.T, line string, number int) {
		r, empty, err := Parse(line, number)
		if err != nil || empty {
			if !equal(r, api.Rule{}) || empty && err != nil {
				t.Errorf("Parse(%q) is %+v, %t, %v", line, r, empty, err)
			}
			return
		}
		checkLine(t, r)
	})
}
