package grants

import (
	"errors"
	"math"
	"slices"
	"testing"

	"imprimatur/api"
)

// without returns the grants that have none of some numbers.
func without(l []Grant, numbers ...int) []Grant {
	return slices.DeleteFunc(slices.Clone(l), func(x Grant) bool {
		return slices.Contains(numbers, x.Number)
	})
}

// checkRevoked revokes a grant of a copy, and holds which are gone.
func checkRevoked(t *testing.T, g *Grants, number int, by string, gone ...int) {
	t.Helper()
	l, last := g.List(), next(t, g)-1
	c := g.Clone()
	if err := c.Revoke(number, by); err != nil {
		t.Errorf("Revoke(%d, %q) is %v", number, by, err)
	}
	checkState(t, c, last, without(l, gone...))
	checkState(t, g, last, l)
}

func checkNotRevoked(t *testing.T, g *Grants, number int, by string, want api.Errno) {
	t.Helper()
	l, last := g.List(), next(t, g)-1
	for range 2 {
		if err := g.Revoke(number, by); !errors.Is(err, want) {
			t.Errorf("Revoke(%d, %q) is %v, not %v", number, by, err, want)
		}
	}
	checkState(t, g, last, l)
}

// checkExpired expires grants of a copy, changes the answer, and holds which are gone, and that none is when it is asked again.
func checkExpired(t *testing.T, g *Grants, now int, gone ...int) {
	t.Helper()
	l, last := g.List(), next(t, g)-1
	c := g.Clone()
	got := c.Expire(now)
	if !slices.Equal(got, gone) {
		t.Errorf("Expire(%d) is %v, not %v", now, got, gone)
	}
	got = got[:cap(got)]
	for i := range got {
		got[i] = -1
	}
	checkState(t, c, last, without(l, gone...))
	if again := c.Expire(now); len(again) > 0 {
		t.Errorf("Expire(%d) is %v when it is asked again", now, again)
	}
	checkState(t, c, last, without(l, gone...))
	checkState(t, g, last, l)
}

const lending = "role a > b;role b;user u0 a;user u1 a;user u2;user u3;user u4;user u5;user u6;user u7;lend a 9 99;lend b 9 99"

// tree has grants by way of one another: 1 > 2 > 5 > 8, 1 > 4, 2 > 7; 3 > 6; 9 alone.
func tree(t *testing.T) *Grants {
	t.Helper()
	return given(t, compiled(t, lending),
		"u0 u2 a 0 0 50", "u2 u3 a 1 0 40", "u0 u4 a 0 0 30", "u2 u5 b 1 0 20", "u3 u6 a 2 0 40",
		"u4 u2 b 3 0 30", "u3 u1 b 2 0 10", "u6 u7 b 5 0 9", "u1 u3 b 0 0 40")
}

func TestRevoke(t *testing.T) {
	g := tree(t)
	checkRevoked(t, g, 1, "u0", 1, 2, 4, 5, 7, 8)
	checkRevoked(t, g, 2, "u2", 2, 5, 7, 8)
	checkRevoked(t, g, 3, "u0", 3, 6)
	checkRevoked(t, g, 4, "u2", 4)
	checkRevoked(t, g, 5, "u3", 5, 8)
	checkRevoked(t, g, 6, "u4", 6)
	checkRevoked(t, g, 7, "u3", 7)
	checkRevoked(t, g, 8, "u6", 8)
	checkRevoked(t, g, 9, "u1", 9)
}

// One behind the other, until there is none.
func TestRevokeAll(t *testing.T) {
	g := tree(t)
	l := g.List()
	var gone []int
	for _, x := range []struct {
		number int
		by     string
		gone   []int
	}{{5, "u3", []int{5, 8}}, {9, "u1", []int{9}}, {3, "u0", []int{3, 6}}, {1, "u0", []int{1, 2, 4, 7}}} {
		if err := g.Revoke(x.number, x.by); err != nil {
			t.Errorf("%d: %v", x.number, err)
		}
		gone = append(gone, x.gone...)
		checkState(t, g, 9, without(l, gone...))
		for _, number := range gone {
			checkNotRevoked(t, g, number, x.by, api.ErrNone)
			checkNotRevoked(t, g, number, l[number-1].From, api.ErrNone)
		}
	}
	checkState(t, g, 9, nil)
}

func TestRevokeErrors(t *testing.T) {
	checkNotRevoked(t, New(), 0, "", api.ErrNone)
	checkNotRevoked(t, New(), 1, "u0", api.ErrNone)
	g := tree(t)
	// No such grant, whoever asks.
	for _, number := range []int{0, -1, 10, 11, 99, 1 << 32, 1<<32 + 1, math.MinInt, math.MaxInt} {
		for _, by := range []string{"u0", "u2", "nobody", ""} {
			checkNotRevoked(t, g, number, by, api.ErrNone)
		}
	}
	// Neither the one whom it was given to, nor those on its way, nor others.
	for _, by := range []string{"u1", "u2", "u3", "u4", "U0", "u0 ", "u", "", "a", "nobody"} {
		checkNotRevoked(t, g, 1, by, api.ErrDenied)
	}
	for _, by := range []string{"u0", "u2", "u6", "u7", "u1"} {
		checkNotRevoked(t, g, 5, by, api.ErrDenied)
	}
}

func TestExpire(t *testing.T) {
	g := tree(t)
	for now, gone := range map[int][]int{
		math.MinInt: nil, -1: nil, 0: nil, 8: nil,
		9: {8}, 10: {7, 8}, 11: {7, 8}, 19: {7, 8}, 20: {4, 7, 8}, 21: {4, 7, 8}, 29: {4, 7, 8}, 30: {3, 4, 6, 7, 8}, 31: {3, 4, 6, 7, 8}, 39: {3, 4, 6, 7, 8},
		40: {2, 3, 4, 5, 6, 7, 8, 9}, 41: {2, 3, 4, 5, 6, 7, 8, 9}, 49: {2, 3, 4, 5, 6, 7, 8, 9},
		50: {1, 2, 3, 4, 5, 6, 7, 8, 9}, 51: {1, 2, 3, 4, 5, 6, 7, 8, 9}, api.MaxTime: {1, 2, 3, 4, 5, 6, 7, 8, 9}, math.MaxInt: {1, 2, 3, 4, 5, 6, 7, 8, 9},
	} {
		checkExpired(t, g, now, gone...)
	}
	checkExpired(t, New(), 0)
	checkExpired(t, New(), math.MaxInt)
	checkExpired(t, New().Clone(), math.MinInt)
}

// A grant is over just at its Until, at the end of time, too.
func TestExpireEdges(t *testing.T) {
	r := compiled(t, lending)
	g := given(t, r, "u0 u2 a 0 0 1", "u1 u3 a 0 max-1 1", "u1 u4 a 0 max-2 1")
	checkExpired(t, g, -1)
	checkExpired(t, g, 0)
	checkExpired(t, g, 1, 1)
	checkExpired(t, g, api.MaxTime-2, 1)
	checkExpired(t, g, api.MaxTime-1, 1, 3)
	checkExpired(t, g, api.MaxTime, 1, 2, 3)
}

// Grants by way of one that is over are over, too, given when it was over already or not, and behind each other in the list.
func TestExpireByWay(t *testing.T) {
	r := compiled(t, lending)
	g := given(t, r, "u0 u2 a 0 0 50", "u1 u3 a 0 0 99", "u2 u4 a 1 0 99", "u3 u5 a 2 0 99", "u4 u6 b 3 60 99", "u2 u7 b 1 70 1", "u5 u7 a 4 70 20")
	checkExpired(t, g, 49)
	checkExpired(t, g, 50, 1, 3, 5, 6)
	checkExpired(t, g, 60, 1, 3, 5, 6)
	checkExpired(t, g, 89, 1, 3, 5, 6)
	checkExpired(t, g, 90, 1, 3, 5, 6, 7)
	checkExpired(t, g, 99, 1, 2, 3, 4, 5, 6, 7)
}

// One behind the other: each is told once, and only when it is over.
func TestExpireOnAndOn(t *testing.T) {
	g := tree(t)
	l := g.List()
	var gone []int
	for _, x := range []struct {
		now  int
		gone []int
	}{{8, nil}, {10, []int{7, 8}}, {9, nil}, {25, []int{4}}, {30, []int{3, 6}}, {0, nil}, {40, []int{2, 5, 9}}, {49, nil}, {50, []int{1}}, {99, nil}} {
		if got := g.Expire(x.now); !slices.Equal(got, x.gone) {
			t.Errorf("Expire(%d) is %v, not %v", x.now, got, x.gone)
		}
		gone = append(gone, x.gone...)
		checkState(t, g, 9, without(l, gone...))
	}
}
