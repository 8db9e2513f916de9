package duty

import (
	"math"
	"slices"
	"testing"
)

// roles returns the set of the bits of some indices.
func roles(at ...int) (set uint32) {
	for _, i := range at {
		set |= 1 << i
	}
	return set
}

const all = math.MaxUint32

// checkFirst holds First, and Apart with it, against the index that there is to be, and the list against what it was (R4).
func checkFirst(t *testing.T, want int, set uint32, l ...Set) {
	t.Helper()
	before := slices.Clone(l)
	if at := First(set, l...); at != want {
		t.Errorf("First(%b, %v) is %d, not %d", set, l, at, want)
	}
	if apart := Apart(set, l...); apart != (want == -1) {
		t.Errorf("Apart(%b, %v) is %t", set, l, apart)
	}
	if !slices.Equal(l, before) {
		t.Errorf("First and Apart of %b made %v of %v", set, l, before)
	}
}

func TestExample(t *testing.T) {
	if Apart(3, Set{2, 3}) {
		t.Error("Apart(3, {2, 3}) is true")
	}
	checkFirst(t, 0, 3, Set{2, 3})
}

func TestCount(t *testing.T) {
	for _, c := range []struct {
		set  uint32
		want int
	}{
		{0, 0},
		{1, 1},
		{2, 1},
		{3, 2},
		{5, 2},
		{7, 3},
		{0xff, 8},
		{0xf0f0, 8},
		{0x55555555, 16},
		{0xaaaaaaaa, 16},
		{1 << 31, 1},
		{1<<31 | 1, 2},
		{all - 1, 31},
		{all >> 1, 31},
		{all, 32},
	} {
		if n := Count(c.set); n != c.want {
			t.Errorf("Count(%b) is %d, not %d", c.set, n, c.want)
		}
	}
}

// Each bit counts for one, alone, beside another one, and where it is the one that is not there.
func TestCountEachBit(t *testing.T) {
	for i := range 32 {
		if n := Count(roles(i)); n != 1 {
			t.Errorf("Count of bit %d is %d", i, n)
		}
		if n := Count(all &^ roles(i)); n != 31 {
			t.Errorf("Count of all but bit %d is %d", i, n)
		}
		if n := Count(1<<i - 1); n != i {
			t.Errorf("Count of the %d bits below %d is %d", i, i, n)
		}
		for j := range i {
			if n := Count(roles(i, j)); n != 2 {
				t.Errorf("Count of bits %d and %d is %d", i, j, n)
			}
		}
	}
}

// A set with fewer, with just as many, and with more than N of the Roles.
func TestFewerAndMore(t *testing.T) {
	two := Set{2, roles(1, 3, 5)}
	checkFirst(t, -1, 0, two)
	checkFirst(t, -1, roles(1), two)
	checkFirst(t, -1, roles(3), two)
	checkFirst(t, -1, roles(5), two)
	checkFirst(t, 0, roles(1, 3), two)
	checkFirst(t, 0, roles(1, 5), two)
	checkFirst(t, 0, roles(3, 5), two)
	checkFirst(t, 0, roles(1, 3, 5), two)
	three := Set{3, roles(0, 2, 4, 6)}
	checkFirst(t, -1, roles(0, 2), three)
	checkFirst(t, -1, roles(4, 6), three)
	checkFirst(t, 0, roles(0, 2, 4), three)
	checkFirst(t, 0, roles(2, 4, 6), three)
	checkFirst(t, 0, roles(0, 2, 4, 6), three)
}

// Bits of the set that are in no Roles change nothing.
func TestBitsBeside(t *testing.T) {
	two := Set{2, roles(1, 3)}
	beside := all &^ two.Roles
	checkFirst(t, -1, beside, two)
	checkFirst(t, -1, beside|roles(1), two)
	checkFirst(t, -1, beside|roles(3), two)
	checkFirst(t, 0, beside|roles(1, 3), two)
	checkFirst(t, -1, roles(0, 1, 2), two)
	checkFirst(t, -1, roles(3, 30, 31), two)
	checkFirst(t, 0, roles(1, 2, 3, 31), two)
	// What one element lacks is not made up for by the Roles of another one.
	checkFirst(t, -1, roles(0, 1), Set{2, roles(0, 2)}, Set{2, roles(1, 3)})
}

func TestFirstOfSeveral(t *testing.T) {
	a, b, c := Set{2, roles(0, 1)}, Set{2, roles(1, 2)}, Set{3, roles(0, 1, 2)}
	checkFirst(t, 0, roles(0, 1, 2), a, b, c)
	checkFirst(t, 0, roles(0, 1, 2), c, b, a)
	checkFirst(t, 0, roles(0, 1), a, b, c)
	checkFirst(t, 1, roles(1, 2), a, b, c)
	checkFirst(t, 2, roles(0, 1), c, b, a)
	checkFirst(t, 1, roles(1, 2), c, b, a)
	checkFirst(t, -1, roles(0, 2), a, b, c)
	checkFirst(t, -1, roles(0, 2), c, b, a)
	// The first one is told, not the one of which there are most.
	checkFirst(t, 1, roles(0, 1, 2, 3), Set{5, roles(0, 1, 2, 3)}, Set{2, roles(2, 3)}, Set{1, roles(0, 1, 2, 3)}, Set{2, roles(2, 3)})
	checkFirst(t, 2, roles(4), a, a, Set{1, roles(4)}, Set{1, roles(4)})
}

func TestManyElements(t *testing.T) {
	const many = 100000
	l := slices.Repeat([]Set{{3, roles(0, 1, 31)}}, many)
	checkFirst(t, -1, roles(0, 31), l...)
	checkFirst(t, 0, roles(0, 1, 31), l...)
	l[many-1].N = 2
	checkFirst(t, many-1, roles(0, 31), l...)
	l[many/2].N = 1
	checkFirst(t, many/2, roles(0, 31), l...)
}

func TestNoElements(t *testing.T) {
	for _, set := range []uint32{0, 1, 3, 1 << 31, all} {
		checkFirst(t, -1, set)
		checkFirst(t, -1, set, []Set(nil)...)
		checkFirst(t, -1, set, []Set{}...)
		checkFirst(t, -1, set, []Set{{0, all}}[:0]...)
	}
}

// None or more of its Roles are in every set, and so is any number below.
func TestNoNumber(t *testing.T) {
	for _, n := range []int{0, -1, -2, -32, -33, math.MinInt32, math.MinInt} {
		for _, set := range []uint32{0, 1, 1 << 31, all} {
			for _, of := range []uint32{0, 1, 2, 1 << 31, all} {
				checkFirst(t, 0, set, Set{n, of})
				checkFirst(t, 1, set, Set{33, of}, Set{n, of}, Set{n, of})
			}
		}
	}
	checkFirst(t, 0, 0, Set{})
}

func TestNumberOfOne(t *testing.T) {
	one := Set{1, roles(2, 4)}
	checkFirst(t, -1, 0, one)
	checkFirst(t, -1, roles(0, 1, 3, 5), one)
	checkFirst(t, 0, roles(2), one)
	checkFirst(t, 0, roles(4), one)
	checkFirst(t, 0, roles(2, 4), one)
}

// No set has more of the Roles than there are.
func TestNumberAboveRoles(t *testing.T) {
	for _, n := range []int{4, 5, 31, 32, 33, math.MaxInt32, math.MaxInt} {
		checkFirst(t, -1, roles(0, 1, 2), Set{n, roles(0, 1, 2)})
		checkFirst(t, -1, all, Set{n, roles(0, 1, 2)})
	}
	for _, n := range []int{33, 34, math.MaxInt32, 1 << 32, 1<<32 + 1, math.MaxInt} {
		checkFirst(t, -1, all, Set{n, all})
	}
	checkFirst(t, 0, all, Set{3, roles(0, 1, 2)})
	checkFirst(t, 0, all, Set{32, all})
}

func TestEmptyRoles(t *testing.T) {
	for _, set := range []uint32{0, 1, 1 << 31, all} {
		for _, n := range []int{1, 2, 32, math.MaxInt} {
			checkFirst(t, -1, set, Set{N: n})
		}
		checkFirst(t, 0, set, Set{N: 0})
		checkFirst(t, 0, set, Set{N: -1})
	}
}

func TestEmptySet(t *testing.T) {
	for _, of := range []uint32{0, 1, 1 << 31, all} {
		checkFirst(t, -1, 0, Set{1, of}, Set{2, of}, Set{32, of})
		checkFirst(t, 3, 0, Set{1, of}, Set{2, of}, Set{32, of}, Set{0, of})
	}
}

func TestAllBits(t *testing.T) {
	for n := range 32 {
		checkFirst(t, 0, all, Set{n + 1, all})
		checkFirst(t, 0, all, Set{n, 1<<n - 1})
		checkFirst(t, -1, all, Set{n + 1, 1<<n - 1})
		checkFirst(t, 0, 1<<n-1, Set{n, all})
		checkFirst(t, -1, 1<<n-1, Set{n + 1, all})
	}
}

func TestHighestBit(t *testing.T) {
	const highest = 1 << 31
	checkFirst(t, 0, highest, Set{1, highest})
	checkFirst(t, 0, highest, Set{1, all})
	checkFirst(t, -1, highest, Set{2, highest})
	checkFirst(t, -1, highest, Set{2, all})
	checkFirst(t, -1, highest, Set{1, all >> 1})
	checkFirst(t, -1, all>>1, Set{1, highest})
	checkFirst(t, -1, highest, Set{2, highest | 1})
	checkFirst(t, 0, highest|1, Set{2, highest | 1})
}

// Nothing beyond the length of the list is read or written (R4).
func TestSetsMemory(t *testing.T) {
	kept := []Set{{3, roles(0, 1, 2)}, {2, roles(0, 1)}, {0, all}, {-1, 0}}
	before := slices.Clone(kept)
	checkFirst(t, -1, roles(0, 2), kept[:2]...)
	checkFirst(t, 1, roles(0, 1), kept[:2]...)
	checkFirst(t, 0, roles(0, 1, 2), kept[:2]...)
	checkFirst(t, 2, 0, kept...)
	if !slices.Equal(kept, before) {
		t.Errorf("the list became %v", kept)
	}
}
