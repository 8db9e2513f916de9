package clock

import (
	"math"
	"testing"

	"imprimatur/api"
)

func TestNextOfNothing(t *testing.T) {
	for _, now := range []int{math.MinInt, -1, 0, 1, api.MaxTime, math.MaxInt} {
		checkNoNext(t, nil, now)
		checkNoNext(t, []Due{}, now)
		if d, ok := Next(nil, now); d != (Due{}) || ok {
			t.Error(d, ok)
		}
	}
}

func TestNextNow(t *testing.T) {
	for _, time := range []int{-7, -1, 0, 1, 100, api.MaxTime, api.MaxTime + 1} {
		d := Due{time, "a", 4}
		later := Due{time + 5, "a", 3}
		for _, l := range [][]Due{{d}, {d, later}, {later, d}, {d, d}} {
			checkNoNext(t, l, time-2)
			checkNoNext(t, l, time-1)
			checkNext(t, l, time, d)
			checkNext(t, l, time+1, d)
			checkNext(t, l, time+5, d)
			checkNext(t, l, math.MaxInt, d)
			checkNoNext(t, l, math.MinInt)
		}
	}
}

func TestNextEndsOfNumbers(t *testing.T) {
	first, last := Due{math.MinInt, "b", 1}, Due{math.MaxInt, "a", 0}
	checkNext(t, []Due{last, first}, math.MinInt, first)
	checkNext(t, []Due{last, first}, math.MaxInt, first)
	checkNext(t, []Due{last}, math.MaxInt, last)
	checkNoNext(t, []Due{last}, math.MaxInt-1)
	checkNoNext(t, []Due{last}, math.MinInt)
	checkNoNext(t, []Due{last}, -1)
}

// The zero Due is told with true where it is the first one.
func TestNextZero(t *testing.T) {
	checkNext(t, []Due{{}}, 0, Due{})
	checkNext(t, []Due{{1, "a", 0}, {}}, 5, Due{})
	checkNoNext(t, []Due{{}}, -1)
}

// The first one of Sort, wherever it stands.
func TestNextOfAnyOrder(t *testing.T) {
	for _, l := range [][]Due{
		{{3, "b", 2}, {3, "b", 4}, {3, "c", 1}, {4, "a", 0}, {9, "a", 0}},
		{{-3, "", 2}, {-3, "a", 1}, {-2, "", 0}, {0, "", 0}, {3, "", 0}},
		{{3, "Z", 9}, {3, "a", 8}, {3, "aa", 7}, {3, "b", 6}, {3, "\x80", 5}},
		{{3, "a", -1}, {3, "a", 0}, {3, "a", 0}, {3, "a", 1}, {3, "a", 2}},
	} {
		first := l[0]
		permute(l, 0, func() {
			checkNoNext(t, l, first.Time-1)
			checkNext(t, l, first.Time, first)
			checkNext(t, l, first.Time+1, first)
			checkNext(t, l, 100, first)
		})
	}
}

// All are due by now in the end, and it is the first one still; of two of one time the Doc tells which that is.
func TestNextOfMany(t *testing.T) {
	var l []Due
	for i := range 400 {
		l = append(l, Due{1 + i*173%400, "d", i})
	}
	first := Due{1, "d", 0}
	checkNext(t, l, 1, first)
	checkNext(t, l, 400, first)
	checkNoNext(t, l, 0)
	l = append(l[1:], Due{1, "c", 77})
	checkNext(t, l, 1, Due{1, "c", 77})
}
