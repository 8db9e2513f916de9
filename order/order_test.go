package order

import (
	"slices"
	"strconv"
	"testing"

	"imprimatur/api"
)

// made returns an order that there must be.
func made(t *testing.T, names []string, l ...Pair) *Order {
	t.Helper()
	o, err := New(names, l...)
	if o == nil || err != nil {
		t.Fatalf("New(%q, %q) is %v, %v", names, l, o, err)
	}
	return o
}

// numbered returns n different names: 0, 1, 2 ..
func numbered(n int) (names []string) {
	for i := range n {
		names = append(names, strconv.Itoa(i))
	}
	return names
}

// numberedChain returns the pairs 0 > 1, 1 > 2 .. of n numbered names.
func numberedChain(n int) (l []Pair) {
	for i := range n - 1 {
		l = append(l, Pair{strconv.Itoa(i), strconv.Itoa(i + 1)})
	}
	return l
}

// letters returns each byte as a name.
func letters(s string) (names []string) {
	for i := range len(s) {
		names = append(names, s[i:i+1])
	}
	return names
}

// pairs returns each two bytes, the words separated by blanks, as a pair.
func pairs(s string) (l []Pair) {
	for ; len(s) >= 2; s = s[min(3, len(s)):] {
		l = append(l, Pair{s[:1], s[1:2]})
	}
	return l
}

// set returns the bits of some indices.
func set(at ...int) (bits uint32) {
	for _, i := range at {
		bits |= 1 << i
	}
	return bits
}

// checkBelow holds all that an order answers against what each name is above: below has for each name a text of the letters.
func checkBelow(t *testing.T, o *Order, names string, below ...string) {
	t.Helper()
	if l := o.Names(); !slices.Equal(l, letters(names)) {
		t.Errorf("Names is %q, not %q", l, names)
	}
	for i, senior := range letters(names) {
		if at := o.Index(senior); at != i {
			t.Errorf("Index(%q) is %d, not %d", senior, at, i)
		}
		if l := o.Below(senior); !slices.Equal(l, letters(below[i])) {
			t.Errorf("Below(%q) is %q, not %q", senior, l, below[i])
		}
		var down, up uint32
		for j, other := range letters(names) {
			above := slices.Contains(letters(below[i]), other)
			if o.Above(senior, other) != above {
				t.Errorf("Above(%q, %q) is %v", senior, other, !above)
			}
			if above {
				down |= set(j)
			}
			if slices.Contains(letters(below[j]), senior) {
				up |= set(j)
			}
		}
		if got := o.Down(set(i)); got != down {
			t.Errorf("Down of %q is %b, not %b", senior, got, down)
		}
		if got := o.Up(set(i)); got != up {
			t.Errorf("Up of %q is %b, not %b", senior, got, up)
		}
	}
}

func TestExample(t *testing.T) {
	o := made(t, []string{"a", "b"}, Pair{"a", "b"})
	if !o.Above("a", "b") || o.Above("b", "a") {
		t.Error("a is not above b alone")
	}
	checkBelow(t, o, "ab", "ab", "b")
}

func TestChain(t *testing.T) {
	checkBelow(t, made(t, letters("abcd"), pairs("ab bc cd")...), "abcd", "abcd", "bcd", "cd", "d")
	checkBelow(t, made(t, letters("abcd"), pairs("cd bc ab")...), "abcd", "abcd", "bcd", "cd", "d")
	checkBelow(t, made(t, letters("abcd"), pairs("bc ab cd")...), "abcd", "abcd", "bcd", "cd", "d")
	checkBelow(t, made(t, letters("dcba"), pairs("ab bc cd")...), "dcba", "d", "dc", "dcb", "dcba")
	checkBelow(t, made(t, letters("badc"), pairs("ab bc cd")...), "badc", "bdc", "badc", "d", "dc")
}

func TestSeveral(t *testing.T) {
	// A name above several, and a name below several.
	checkBelow(t, made(t, letters("abcd"), pairs("ab ac ad")...), "abcd", "abcd", "b", "c", "d")
	checkBelow(t, made(t, letters("abcd"), pairs("bd ad cd")...), "abcd", "ad", "bd", "cd", "d")
	// Two ways from a to d, of the same length and of others.
	checkBelow(t, made(t, letters("abcd"), pairs("ab ac bd cd")...), "abcd", "abcd", "bd", "cd", "d")
	checkBelow(t, made(t, letters("abcde"), pairs("ab bc cd ae ed")...), "abcde", "abcde", "bcd", "cd", "d", "de")
	// Two hierarchies beside each other, and names that no pair has.
	checkBelow(t, made(t, letters("abcdef"), pairs("ab cd")...), "abcdef", "ab", "b", "cd", "d", "e", "f")
	// A tree of two levels, its names mixed.
	checkBelow(t, made(t, letters("dgbface"), pairs("ab ac bd be cf cg")...), "dgbface", "d", "g", "dbe", "f", "dgbface", "gfc", "e")
}

// Pairs that follow from others, and pairs that occur twice, add nothing.
func TestPairsMoreThanOnce(t *testing.T) {
	checkBelow(t, made(t, letters("abc"), pairs("ab bc ac")...), "abc", "abc", "bc", "c")
	checkBelow(t, made(t, letters("abc"), pairs("ac ab bc")...), "abc", "abc", "bc", "c")
	checkBelow(t, made(t, letters("abcd"), pairs("ad ab bc cd ac bd")...), "abcd", "abcd", "bcd", "cd", "d")
	checkBelow(t, made(t, letters("ab"), pairs("ab ab")...), "ab", "ab", "b")
	checkBelow(t, made(t, letters("abc"), pairs("bc ab ab bc bc")...), "abc", "abc", "bc", "c")
	many := slices.Repeat(pairs("ab bc"), 5000)
	checkBelow(t, made(t, letters("abc"), many...), "abc", "abc", "bc", "c")
}

func TestNoPairs(t *testing.T) {
	checkBelow(t, made(t, letters("cab")), "cab", "c", "a", "b")
	checkBelow(t, made(t, letters("cab"), []Pair{}...), "cab", "c", "a", "b")
	checkBelow(t, made(t, letters("a")), "a", "a")
}

func TestNoNames(t *testing.T) {
	for _, names := range [][]string{nil, {}} {
		o := made(t, names)
		if l := o.Names(); len(l) > 0 {
			t.Errorf("Names of none is %q", l)
		}
		for _, name := range []string{"", "a"} {
			if o.Index(name) != -1 || o.Above(name, name) || len(o.Below(name)) > 0 {
				t.Errorf("%q is a name of none", name)
			}
		}
		for _, bits := range []uint32{0, 1, 1 << 23, 1 << 31, 1<<32 - 1} {
			if o.Down(bits) != 0 || o.Up(bits) != 0 {
				t.Errorf("Down and Up of %b are %b and %b", bits, o.Down(bits), o.Up(bits))
			}
		}
	}
}

// Any text may be a name: the order does not ask what it consists of.
func TestAnyNames(t *testing.T) {
	names := []string{"", "A B", "\x00", "\xff\n", "a", "a ", "a name of more bytes than MaxName"}
	o := made(t, names, Pair{"", "\xff\n"}, Pair{"A B", ""}, Pair{"a", "a "})
	for i, name := range names {
		if o.Index(name) != i {
			t.Errorf("Index(%q) is %d, not %d", name, o.Index(name), i)
		}
	}
	if !o.Above("", "") || !o.Above("A B", "\xff\n") || !o.Above("", "\xff\n") || o.Above("", "A B") || o.Above("a ", "a") {
		t.Error("the names are not above each other as their pairs say")
	}
	if l := o.Below("A B"); !slices.Equal(l, []string{"", "A B", "\xff\n"}) {
		t.Errorf("Below is %q", l)
	}
	if o.Down(set(1)) != set(0, 1, 3) || o.Up(set(3)) != set(0, 1, 3) {
		t.Errorf("Down is %b, Up is %b", o.Down(set(1)), o.Up(set(3)))
	}
	if at := made(t, []string{"a", ""}).Index(""); at != 1 {
		t.Errorf("Index of the empty text is %d", at)
	}
}

func TestNamesThatThereAreNot(t *testing.T) {
	o := made(t, []string{"a", "bb"}, Pair{"a", "bb"})
	for _, name := range []string{"", "b", "bbb", "A", "a ", " a", "a\x00", "c", "0", "\xff"} {
		if at := o.Index(name); at != -1 {
			t.Errorf("Index(%q) is %d", name, at)
		}
		if l := o.Below(name); len(l) > 0 {
			t.Errorf("Below(%q) is %q", name, l)
		}
		if o.Above(name, name) || o.Above(name, "a") || o.Above(name, "bb") || o.Above("a", name) || o.Above("bb", name) || o.Above(name, "z") || o.Above("z", name) {
			t.Errorf("%q is above or below a name", name)
		}
	}
}

func TestSets(t *testing.T) {
	// a is above b and c, b above d, c above d; e above f.
	o := made(t, letters("abcdef"), pairs("ab ac bd cd ef")...)
	for _, c := range []struct{ of, down, up uint32 }{
		{0, 0, 0},
		{set(0), set(0, 1, 2, 3), set(0)},
		{set(3), set(3), set(0, 1, 2, 3)},
		{set(1, 2), set(1, 2, 3), set(0, 1, 2)},
		{set(1, 4), set(1, 3, 4, 5), set(0, 1, 4)},
		{set(2, 5), set(2, 3, 5), set(0, 2, 4, 5)},
		{set(0, 4), set(0, 1, 2, 3, 4, 5), set(0, 4)},
		{set(3, 5), set(3, 5), set(0, 1, 2, 3, 4, 5)},
		{set(0, 1, 2, 3, 4, 5), set(0, 1, 2, 3, 4, 5), set(0, 1, 2, 3, 4, 5)},
	} {
		// Bits beyond the names change nothing.
		for _, more := range []uint32{0, set(6), set(23), set(24), set(31), set(6, 7, 31), 1<<32 - 1<<6} {
			if got := o.Down(c.of | more); got != c.down {
				t.Errorf("Down(%b) is %b, not %b", c.of|more, got, c.down)
			}
			if got := o.Up(c.of | more); got != c.up {
				t.Errorf("Up(%b) is %b, not %b", c.of|more, got, c.up)
			}
		}
	}
}

func TestMaxRoles(t *testing.T) {
	const last = api.MaxRoles - 1
	const all = 1<<api.MaxRoles - 1
	names := numbered(api.MaxRoles)
	o := made(t, names, numberedChain(api.MaxRoles)...)
	if !slices.Equal(o.Names(), names) || !slices.Equal(o.Below("0"), names) || !slices.Equal(o.Below(names[last]), names[last:]) {
		t.Errorf("Names is %q, Below are %q and %q", o.Names(), o.Below("0"), o.Below(names[last]))
	}
	for i, senior := range names {
		for j, junior := range names {
			if o.Above(senior, junior) != (i <= j) {
				t.Errorf("Above(%q, %q) is %v", senior, junior, i > j)
			}
		}
		if o.Index(senior) != i || o.Down(set(i)) != all-(set(i)-1) || o.Up(set(i)) != 2*set(i)-1 {
			t.Errorf("of %d: Index is %d, Down is %b, Up is %b", i, o.Index(senior), o.Down(set(i)), o.Up(set(i)))
		}
	}
	for _, bits := range []uint32{all, 1<<32 - 1} {
		if o.Down(bits) != all || o.Up(bits) != all {
			t.Errorf("of %b: Down is %b, Up is %b", bits, o.Down(bits), o.Up(bits))
		}
	}
	if beyond := uint32(1<<32 - 1<<api.MaxRoles); o.Down(beyond) != 0 || o.Up(beyond) != 0 {
		t.Errorf("beyond the names: Down is %b, Up is %b", o.Down(beyond), o.Up(beyond))
	}
	// The last of MaxRoles names alone, and as the one that is above all.
	if o = made(t, names); o.Down(set(last)) != set(last) || o.Up(set(last)) != set(last) {
		t.Errorf("without pairs: Down is %b, Up is %b", o.Down(set(last)), o.Up(set(last)))
	}
	var l []Pair
	for _, name := range names[:last] {
		l = append(l, Pair{names[last], name})
	}
	if o = made(t, names, l...); o.Down(set(last)) != all || o.Up(set(last)) != set(last) || o.Up(set(0)) != set(0, last) {
		t.Errorf("the last one above all: Down is %b, Up is %b and %b", o.Down(set(last)), o.Up(set(last)), o.Up(set(0)))
	}
}
