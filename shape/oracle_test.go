package shape

import (
	"math"
	"math/rand"
	"slices"
	"testing"

	"imprimatur/api"
)

// The chapter once more, in another way: each condition by itself, ancestors as lists, and configurations made, not asked.

func slowValid(s Shape) bool {
	n := len(s.Kinds)
	if n != len(s.Parents) || n == 0 || n > api.MaxStates {
		return false
	}
	open := map[int]bool{api.Plain: true, api.All: true}
	kids, openKids := map[int]int{-1: 0}, map[int]int{}
	for i, kind := range s.Kinds {
		p := s.Parents[i]
		switch {
		case p < -1 || p >= i:
			return false
		case !open[kind] && kind != api.Past && kind != api.Deep:
			return false
		case p >= 0 && !open[s.Kinds[p]]:
			return false
		case !open[kind] && (p == -1 || s.Kinds[p] != api.Plain):
			return false
		}
		kids[p]++
		if open[kind] {
			openKids[p]++
		}
	}
	for p := range kids {
		if openKids[p] == 0 {
			return false
		}
	}
	return true
}

// slowAncestors returns the ancestors of a state, the outermost first, and whether there is such a state.
func slowAncestors(s Shape, at int) ([]int, bool) {
	if at < 0 || at >= len(s.Kinds) {
		return nil, false
	}
	if s.Parents[at] == -1 {
		return nil, true
	}
	l, _ := slowAncestors(s, s.Parents[at])
	return append(l, s.Parents[at]), true
}

func slowKids(s Shape, at int) (l []int) {
	for kid, p := range s.Parents {
		if p == at {
			l = append(l, kid)
		}
	}
	return l
}

func slowDomain(s Shape, from, to int) int {
	of, ok1 := slowAncestors(s, from)
	with, ok2 := slowAncestors(s, to)
	domain := -1
	for _, at := range of {
		if ok1 && ok2 && slices.Contains(with, at) && s.Kinds[at] == api.Plain && at != from && at != to {
			domain = at
		}
	}
	return domain
}

// within returns all that a document may be in beneath at (-1: the top), at itself included.
func within(s Shape, at int) []uint32 {
	self := uint32(0)
	if at >= 0 {
		self = 1 << at
	}
	var parts [][]uint32
	for _, kid := range slowKids(s, at) {
		if s.Kinds[kid] == api.Plain || s.Kinds[kid] == api.All {
			parts = append(parts, within(s, kid))
		}
	}
	sets := []uint32{self}
	if at >= 0 && s.Kinds[at] == api.All {
		for _, part := range parts {
			sets = joined(sets, part)
		}
	} else if len(parts) > 0 {
		sets = joined(sets, slices.Concat(parts...))
	}
	return sets
}

// joined returns each of some sets with each of others.
func joined(some, others []uint32) (l []uint32) {
	for _, a := range some {
		for _, b := range others {
			l = append(l, a|b)
		}
	}
	return l
}

// checkAll holds all calls but Proper against the second reading, for all indexes and some beyond.
func checkAll(t *testing.T, s Shape) {
	t.Helper()
	n := len(s.Kinds)
	for at := -3; at < n+3; at++ {
		l, ok := slowAncestors(s, at)
		level := -1
		if ok {
			level = len(l)
		}
		kids := slowKids(s, at)
		checkKids(t, s, at, kids...)
		checkLevel(t, s, at, level)
		initial := -1
		for _, kid := range slices.Backward(kids) {
			if s.Kinds[kid] == api.Plain || s.Kinds[kid] == api.All {
				initial = kid
			}
		}
		checkInitial(t, s, at, initial)
		for other := -3; other < n+3; other++ {
			checkUnder(t, s, at, other, ok && (other == -1 || other == at || slices.Contains(l, other)))
			checkDomain(t, s, at, other, slowDomain(s, at, other))
		}
	}
}

// checkSets holds Proper of all sets of the states, and of one beyond, against the configurations.
func checkSets(t *testing.T, s Shape) {
	t.Helper()
	good := within(s, -1)
	count := 0
	for set := range uint32(2 << len(s.Kinds)) {
		if Proper(s, set) {
			count++
		}
	}
	for _, set := range good {
		if !Proper(s, set) || Proper(s, set|1<<31) {
			t.Fatalf("Proper(%v, %b) is false", s, set)
		}
	}
	if count != len(good) {
		t.Fatalf("%v has %d configurations, not %d", s, count, len(good))
	}
}

// All lists of few kinds and parents, those that are none included.
func TestAllSmallLists(t *testing.T) {
	for n := range 4 {
		var numbers []int
		for i := -2; i <= 5; i++ {
			numbers = append(numbers, i)
		}
		count := 0
		each(numbers, n, func(kinds []int) {
			each(numbers[:n+3], n, func(parents []int) {
				s := Shape{kinds, parents}
				valid := slowValid(s)
				if Valid(s) != valid {
					t.Fatalf("Valid(%v) is %t", s, !valid)
				}
				if valid {
					count++
				}
			})
		})
		// With one state two; with two a Plain or an All besides, or in it.
		if want := []int{0, 2, 8}; n < len(want) && count != want[n] {
			t.Errorf("%d shapes of %d states, not %d", count, n, want[n])
		}
	}
}

// All shapes of few states, with all their indexes and sets.
func TestAllSmallShapes(t *testing.T) {
	for n := 1; n <= 5; n++ {
		var s Shape
		count := map[bool]int{}
		var next func()
		next = func() {
			at := len(s.Kinds)
			if at == n {
				valid := slowValid(s)
				checkValid(t, valid, s)
				if count[valid]++; valid {
					checkAll(t, s)
					checkSets(t, s)
				}
				return
			}
			for kind := api.Plain; kind <= api.Deep; kind++ {
				for parent := -1; parent < at; parent++ {
					s.Kinds, s.Parents = append(s.Kinds, kind), append(s.Parents, parent)
					next()
					s.Kinds, s.Parents = s.Kinds[:at], s.Parents[:at]
				}
			}
		}
		next()
		if count[true] == 0 || count[false] == 0 || t.Failed() {
			t.Fatalf("of %d states %v", n, count)
		}
	}
}

// someShape returns a valid shape, with memory beyond its lists.
func someShape(random *rand.Rand) Shape {
	for {
		n := 1 + random.Intn(api.MaxStates)
		kinds, parents := make([]int, n, n+3), make([]int, n, n+3)
		near := 1 + random.Intn(n)
		for i := range n {
			kinds[i], parents[i] = 1+random.Intn(2), max(-1, i-1-random.Intn(near))
			for parents[i] >= 0 && kinds[parents[i]] > api.All {
				parents[i]--
			}
			if p := parents[i]; p >= 0 && kinds[p] == api.Plain && random.Intn(4) == 0 {
				kinds[i] = api.Past + random.Intn(2)
			}
		}
		if s := (Shape{kinds, parents}); slowValid(s) {
			return s
		}
	}
}

func TestSomeShapes(t *testing.T) {
	random := rand.New(rand.NewSource(6))
	deepest, domains := 0, 0
	for range 300 {
		s := someShape(random)
		checkValid(t, true, s)
		checkAll(t, s)
		checkSomeSets(t, random, s)
		for at := range s.Kinds {
			deepest = max(deepest, Level(s, at))
			if Domain(s, at, len(s.Kinds)-1) >= 0 {
				domains++
			}
		}
		if t.Failed() {
			return
		}
	}
	if deepest < 8 || domains < 300 {
		t.Errorf("the shapes are too simple: %d, %d", deepest, domains)
	}
}

// checkSomeSets holds Proper of configurations, of sets that differ from them by one state or two, and of others, against a list.
func checkSomeSets(t *testing.T, random *rand.Rand, s Shape) {
	t.Helper()
	good := map[uint32]bool{}
	for _, set := range within(s, -1) {
		good[set] = true
	}
	left := 100
	for _, set := range within(s, -1) {
		checkProper(t, true, s, set)
		for i := range 32 {
			near := set ^ 1<<i
			checkProper(t, good[near], s, near)
			near ^= 1 << random.Intn(32)
			checkProper(t, good[near], s, near)
		}
		if left--; left == 0 {
			break
		}
	}
	for range 100 {
		set := random.Uint32() & random.Uint32() & (1<<len(s.Kinds) - 1)
		checkProper(t, good[set], s, set)
	}
	checkProper(t, good[math.MaxUint32], s, math.MaxUint32)
}

// One number of a shape changed: where the conditions turn.
func TestSomeNearShapes(t *testing.T) {
	random := rand.New(rand.NewSource(6))
	count := map[bool]int{}
	for range 20000 {
		s := someShape(random)
		for range 1 + random.Intn(2) {
			at := random.Intn(len(s.Kinds))
			s = changed(s, at, random.Intn(6), s.Parents[at])
			if random.Intn(2) == 0 {
				s.Parents[at] = random.Intn(at+3) - 2
			}
		}
		valid := slowValid(s)
		checkValid(t, valid, s)
		count[valid]++
	}
	if count[true] < 2000 || count[false] < 2000 {
		t.Errorf("true and false come %v times", count)
	}
}
