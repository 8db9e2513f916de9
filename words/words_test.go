package words

import (
	"slices"
	"strings"
	"testing"

	"imprimatur/api"
)

// checkSplit holds Split(line) against the words and the column that it is to return.
func checkSplit(t *testing.T, line string, want []Word, wantBad int) {
	t.Helper()
	l, bad := Split(line)
	if !slices.Equal(l, want) || bad != wantBad {
		t.Errorf("Split(%q) is %#v, %d, not %#v, %d", line, l, bad, want, wantBad)
	}
}

func TestSplitOrdinary(t *testing.T) {
	checkSplit(t, "user", []Word{{"user", 1}}, 0)
	checkSplit(t, "role head > clerk", []Word{{"role", 1}, {"head", 6}, {">", 11}, {"clerk", 13}}, 0)
	checkSplit(t, "ssd 2 a b", []Word{{"ssd", 1}, {"2", 5}, {"a", 7}, {"b", 9}}, 0)
	checkSplit(t, "A.b/C!", []Word{{"A.b/C!", 1}}, 0)
}

func TestSplitBlanks(t *testing.T) {
	checkSplit(t, "", nil, 0)
	checkSplit(t, " ", nil, 0)
	checkSplit(t, "     ", nil, 0)
	checkSplit(t, " a", []Word{{"a", 2}}, 0)
	checkSplit(t, "a ", []Word{{"a", 1}}, 0)
	checkSplit(t, "   a    bc  ", []Word{{"a", 4}, {"bc", 9}}, 0)
}

func TestSplitComment(t *testing.T) {
	checkSplit(t, " a  b# c", []Word{{"a", 2}, {"b", 5}}, 0)
	checkSplit(t, "#", nil, 0)
	checkSplit(t, "# a b", nil, 0)
	checkSplit(t, "  # a", nil, 0)
	checkSplit(t, "a #", []Word{{"a", 1}}, 0)
	checkSplit(t, "a#b#c", []Word{{"a", 1}}, 0)
	checkSplit(t, "a ## b", []Word{{"a", 1}}, 0)
}

func TestSplitEdgeBytes(t *testing.T) {
	checkSplit(t, "a\x1fb", nil, 2)
	checkSplit(t, "a\x20b", []Word{{"a", 1}, {"b", 3}}, 0)
	checkSplit(t, "a\x7eb", []Word{{"a\x7eb", 1}}, 0)
	checkSplit(t, "a\x7fb", nil, 2)
	checkSplit(t, "ab\n", nil, 3)
	checkSplit(t, "\r", nil, 1)
	checkSplit(t, "a \u00e9", nil, 3)
}

func TestSplitFirstBadByte(t *testing.T) {
	checkSplit(t, "a b\t\x00", nil, 4)
	checkSplit(t, "\x80\x1f", nil, 1)
	checkSplit(t, "ab \x1f# \x7f", nil, 4)
	checkSplit(t, "   \x00   ", nil, 4)
}

// Every byte stands once ahead of a comment, where 32 to 126 alone may stand, and once within one, where all may.
func TestSplitEveryByte(t *testing.T) {
	for i := 0; i < 256; i++ {
		b := string([]byte{byte(i)})
		checkSplit(t, "a #x"+b+"y", []Word{{"a", 1}}, 0)
		line := "a " + b + "c"
		switch {
		case i < 32 || i > 126:
			checkSplit(t, line, nil, 3)
			checkSplit(t, line+"#", nil, 3)
		case i == ' ':
			checkSplit(t, line, []Word{{"a", 1}, {"c", 4}}, 0)
		case i == '#':
			checkSplit(t, line, []Word{{"a", 1}}, 0)
		default:
			checkSplit(t, line, []Word{{"a", 1}, {b + "c", 3}}, 0)
		}
	}
}

// slowSplit says what the chapter says, byte by byte, by marks instead of by ranges.
func slowSplit(line string) (l []Word, bad int) {
	inWord := false
	for i := 0; i < len(line) && line[i] != '#'; i++ {
		if line[i] < 32 || line[i] > 126 {
			return nil, i + 1
		}
		if line[i] == 32 {
			inWord = false
			continue
		}
		if !inWord {
			l = append(l, Word{"", i + 1})
			inWord = true
		}
		l[len(l)-1].Text += line[i : i+1]
	}
	return l, 0
}

func TestSplitAllShortLines(t *testing.T) {
	lines := []string{""}
	for range 6 {
		var longer []string
		for _, line := range lines {
			want, bad := slowSplit(line)
			checkSplit(t, line, want, bad)
			for _, b := range []string{"a", "z", " ", "#", "\x1f"} {
				longer = append(longer, line+b)
			}
		}
		lines = longer
	}
}

func TestSplitLongLine(t *testing.T) {
	const many = 100000
	l, bad := Split(strings.Repeat(" x", many))
	if bad != 0 || len(l) != many || l[0] != (Word{"x", 2}) || l[many-1] != (Word{"x", 2 * many}) {
		t.Errorf("a line of %d words: %d words, column %d", many, len(l), bad)
	}
	checkSplit(t, strings.Repeat("x", many), []Word{{strings.Repeat("x", many), 1}}, 0)
	checkSplit(t, strings.Repeat(" ", many)+"\x00", nil, many+1)
}

// Whoever changes an answer changes no later one (R4).
func TestSplitNewMemory(t *testing.T) {
	first, _ := Split("a b")
	second, _ := Split("a b")
	first[0] = Word{"other", 9}
	_ = append(first[:1], Word{"more", 7})
	if !slices.Equal(second, []Word{{"a", 1}, {"b", 3}}) {
		t.Errorf("the second answer became %v", second)
	}
	checkSplit(t, "a b", []Word{{"a", 1}, {"b", 3}}, 0)
}

func TestNameLength(t *testing.T) {
	if Name("") {
		t.Error("the empty text is no name")
	}
	for n := 1; n <= 3*api.MaxName; n++ {
		if got, want := Name(strings.Repeat("n", n)), n <= api.MaxName; got != want {
			t.Errorf("a name of %d bytes: %t", n, got)
		}
	}
	if api.MaxName != 12 || !Name("abcdefghijkl") || Name("abcdefghijklm") {
		t.Error("a name has 12 bytes at most")
	}
}

func TestNameEveryByte(t *testing.T) {
	const may = "abcdefghijklmnopqrstuvwxyz0123456789_-"
	for i := 0; i < 256; i++ {
		b := string([]byte{byte(i)})
		want := strings.Contains(may, b)
		for _, s := range []string{b, b + "a", "a" + b, "a" + b + "z", "abcdefghijk" + b} {
			if Name(s) != want {
				t.Errorf("Name(%q) is not %t", s, want)
			}
		}
	}
}

func TestNameWrong(t *testing.T) {
	for _, s := range []string{" ", "a b", " a", "a ", "Clerk", "cLerk", "a.b", "a#", ">", "\u00e9", "a\n", "a\x00"} {
		if Name(s) {
			t.Errorf("%q is no name", s)
		}
	}
	for _, s := range []string{"a", "z", "0", "9", "_", "-", "clerk", "a-b_c", "007", "-1"} {
		if !Name(s) {
			t.Errorf("%q is a name", s)
		}
	}
}

// checkNumber holds Number(s) against a number, or against none where want is below 0.
func checkNumber(t *testing.T, s string, want int) {
	t.Helper()
	n, ok := Number(s)
	if ok != (want >= 0) || n != max(want, 0) {
		t.Errorf("Number(%q) is %d, %t, not %d", s, n, ok, want)
	}
}

func TestNumberOrdinary(t *testing.T) {
	checkNumber(t, "0", 0)
	checkNumber(t, "1", 1)
	checkNumber(t, "9", 9)
	checkNumber(t, "10", 10)
	checkNumber(t, "100", 100)
	checkNumber(t, "1234", 1234)
	checkNumber(t, "90807", 90807)
}

func TestNumberLength(t *testing.T) {
	checkNumber(t, "100000000", 100000000)
	checkNumber(t, "123456789", 123456789)
	checkNumber(t, "999999999", 999999999)
	checkNumber(t, "1000000000", -1)
	checkNumber(t, "1234567890", -1)
	checkNumber(t, "9999999999", -1)
	checkNumber(t, strings.Repeat("1", 100), -1)
}

func TestNumberZeros(t *testing.T) {
	checkNumber(t, "00", -1)
	checkNumber(t, "01", -1)
	checkNumber(t, "000000001", -1)
	checkNumber(t, "0000000001", -1)
	checkNumber(t, "0a", -1)
}

func TestNumberWrong(t *testing.T) {
	checkNumber(t, "", -1)
	for _, s := range []string{" ", " 1", "1 ", "+1", "-1", "-0", "1.0", "1e3", "0x1", "1_0", "a", "1a", "a1", "12 34", "\u0661", "1\n", "1\x00"} {
		checkNumber(t, s, -1)
	}
}

func TestNumberEveryByte(t *testing.T) {
	for i := 0; i < 256; i++ {
		b := string([]byte{byte(i)})
		digit := strings.Index("0123456789", b)
		checkNumber(t, b, digit)
		if digit < 0 {
			checkNumber(t, "1"+b, -1)
			checkNumber(t, b+"1", -1)
			checkNumber(t, "1"+b+"2", -1)
			continue
		}
		checkNumber(t, "1"+b, 10+digit)
		checkNumber(t, "1"+b+"2", 102+10*digit)
	}
}
