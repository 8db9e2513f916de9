package clock

import (
	"math"
	"slices"
	"strings"
	"testing"
)

func TestSortNothing(t *testing.T) {
	if l := Sort(); len(l) != 0 {
		t.Error(l)
	}
	checkSort(t, nil)
	checkSort(t, []Due{})
}

func TestSortOne(t *testing.T) {
	for _, d := range []Due{{}, {5, "a", 3}, {-5, "", -3}, {math.MinInt, "\xff", math.MaxInt}} {
		checkSort(t, []Due{d}, d)
		if l := Sort(d); !slices.Equal(l, []Due{d}) {
			t.Error(l, d)
		}
	}
}

// Sort takes as many as there are, one by one or as a list.
func TestSortVariadic(t *testing.T) {
	a, b, c := Due{3, "a", 0}, Due{2, "b", 0}, Due{1, "c", 0}
	if l := Sort(a, b); !slices.Equal(l, []Due{b, a}) {
		t.Error(l)
	}
	if l := Sort(a, c, b); !slices.Equal(l, []Due{c, b, a}) {
		t.Error(l)
	}
	if l := Sort([]Due{a, b, c}...); !slices.Equal(l, []Due{c, b, a}) {
		t.Error(l)
	}
	var sort func(...Due) []Due = Sort
	if l := sort(b, a, c, b); !slices.Equal(l, []Due{c, b, b, a}) {
		t.Error(l)
	}
}

// What comes later in the order of the fields never counts ahead of what comes earlier.
func TestSortFields(t *testing.T) {
	checkSortedAnyhow(t, Due{1, "b", 9}, Due{2, "a", 8})
	checkSortedAnyhow(t, Due{1, "a", 9}, Due{1, "b", 1})
	checkSortedAnyhow(t, Due{1, "b", 9}, Due{2, "b", 1})
	checkSortedAnyhow(t, Due{1, "z", 7}, Due{2, "y", 6}, Due{3, "x", 5}, Due{4, "w", 4})
	checkSortedAnyhow(t, Due{1, "a", 9}, Due{1, "b", 8}, Due{1, "c", 7}, Due{1, "d", 6})
	checkSortedAnyhow(t, Due{1, "a", 1}, Due{1, "a", 2}, Due{1, "a", 3}, Due{1, "a", 10})
	checkSortedAnyhow(t, Due{1, "a", 1}, Due{1, "a", 2}, Due{1, "b", 0}, Due{1, "b", 2}, Due{2, "a", 0}, Due{2, "a", 1}, Due{2, "b", 0})
}

func TestSortNumbers(t *testing.T) {
	checkSortedAnyhow(t, Due{math.MinInt, "a", 0}, Due{-10, "a", 0}, Due{-9, "a", 0}, Due{0, "a", 0}, Due{9, "a", 0}, Due{10, "a", 0}, Due{math.MaxInt, "a", 0})
	checkSortedAnyhow(t, Due{5, "a", math.MinInt}, Due{5, "a", -10}, Due{5, "a", -9}, Due{5, "a", 0}, Due{5, "a", 9}, Due{5, "a", 10}, Due{5, "a", math.MaxInt})
	checkSortedAnyhow(t, Due{1, "a", 0}, Due{1 << 31, "a", 0}, Due{1<<32 - 1, "a", 0}, Due{1 << 32, "a", 0}, Due{1 << 33, "a", 0})
	checkSortedAnyhow(t, Due{1, "a", -1}, Due{1, "a", 1<<31 - 1}, Due{1, "a", 1 << 31}, Due{1, "a", 1<<32 - 1}, Due{1, "a", 1 << 32})
}

// Docs are held against each other byte by byte.
func TestSortDocs(t *testing.T) {
	for _, docs := range [][]string{
		{"", "a", "ab", "abc", "abd", "ac", "b"},
		{"", "\x00", "\x00\x00", "\x01", " "},
		{"A", "B", "Z", "a", "b", "z"},
		{"AB", "Ab", "aB", "ab"},
		{"a10", "a2", "a9", "b1"},
		{"-", "0", "9", "A", "_", "a"},
		{"\x7f", "\x80", "\xc3", "\xff"},
		{"e", "f", "z", "é", "ÿ", "€", "\U00010348"},
		{"a", "a\x00", "a\x7f", "a\x80", "a\xff", "b"},
		// In units of 16 bits, the first would be the last.
		{"\uff61", "\U00010000"},
		{strings.Repeat("x", 999), strings.Repeat("x", 999) + "\x00", strings.Repeat("x", 998) + "y"},
	} {
		var same, falling []Due
		for i, doc := range docs {
			same = append(same, Due{5, doc, 0})
			falling = append(falling, Due{5, doc, 100 - i})
		}
		checkSortedAnyhow(t, same...)
		checkSortedAnyhow(t, falling...)
	}
}

// Equal ones are all in the answer.
func TestSortEqual(t *testing.T) {
	a, b, c := Due{1, "a", 1}, Due{1, "a", 2}, Due{}
	checkSortedAnyhow(t, a, a)
	checkSortedAnyhow(t, a, a, a, a, a)
	checkSortedAnyhow(t, c, c, c)
	checkSortedAnyhow(t, c, c, a, a, a, b, b)
	l := slices.Repeat([]Due{b, a, c}, 300)
	checkSort(t, l, slices.Concat(slices.Repeat([]Due{c}, 300), slices.Repeat([]Due{a}, 300), slices.Repeat([]Due{b}, 300))...)
}

// Many that fall, that rise, and that are mixed.
func TestSortMany(t *testing.T) {
	var rising []Due
	for time := range 12 {
		for _, doc := range []string{"", "B", "a", "aa", "\xfe"} {
			for trans := range 48 {
				rising = append(rising, Due{time - 6, doc, trans - 2})
			}
		}
	}
	checkSort(t, rising, rising...)
	falling := slices.Clone(rising)
	slices.Reverse(falling)
	checkSort(t, falling, rising...)
	var mixed []Due
	for i := range rising {
		mixed = append(mixed, rising[i*1009%len(rising)])
	}
	checkSort(t, mixed, rising...)
}

// A list that is handed over is not the answer, be it sorted already or not.
func TestSortNewMemory(t *testing.T) {
	for _, l := range [][]Due{{{1, "a", 0}, {2, "a", 0}}, {{2, "a", 0}, {1, "a", 0}}, {{1, "a", 0}}} {
		before := slices.Clone(l)
		first, second := Sort(l...), Sort(l...)
		wipe(first)
		if !slices.Equal(l, before) {
			t.Errorf("%v became %v", before, l)
		}
		for i := range l {
			l[i] = Due{7, "b", 7}
		}
		if slices.Contains(second, Due{7, "b", 7}) || slices.Contains(second, Due{-1, "wiped", -1}) || len(second) != len(l) {
			t.Error(second)
		}
	}
	// Nor is the memory that an empty one has beyond it.
	l := []Due{{1, "a", 0}, {2, "a", 0}}
	if sorted := append(Sort(l[:0]...), Due{9, "z", 9}); l[0] != (Due{1, "a", 0}) {
		t.Error(l, sorted)
	}
}
