package order

import (
	"math/rand"
	"slices"
	"strconv"
	"testing"

	"imprimatur/api"
)

// The chapter once more, in another way: nothing is kept but the lists, and each question goes along the pairs anew.

// reached returns the names that one or more pairs lead to from a name.
func reached(l []Pair, from string) map[string]bool {
	found := map[string]bool{}
	for waiting := []string{from}; len(waiting) > 0; waiting = waiting[1:] {
		for _, p := range l {
			if p.Senior == waiting[0] && !found[p.Junior] {
				found[p.Junior] = true
				waiting = append(waiting, p.Junior)
			}
		}
	}
	return found
}

func slowNew(names []string, l []Pair) error {
	seen := map[string]bool{}
	for _, name := range names {
		seen[name] = true
	}
	if len(names) > api.MaxRoles {
		return api.ErrLimit
	}
	if len(seen) < len(names) {
		return api.ErrThere
	}
	for _, p := range l {
		if !seen[p.Senior] || !seen[p.Junior] {
			return api.ErrNone
		}
	}
	for _, name := range names {
		if reached(l, name)[name] {
			return api.ErrCircle
		}
	}
	return nil
}

// checkSlow holds New, and what the order answers of each name, against the lists; it returns the order.
func checkSlow(t *testing.T, names []string, l []Pair) (*Order, error) {
	t.Helper()
	o, err := New(names, l...)
	if want := slowNew(names, l); err != want || (o == nil) != (want != nil) {
		t.Fatalf("New(%q, %q) is %v, %v, not %v", names, l, o, err, want)
	}
	if err != nil {
		return nil, err
	}
	if got := o.Names(); !slices.Equal(got, names) {
		t.Fatalf("Names of %q is %q", names, got)
	}
	for i, senior := range names {
		found := reached(l, senior)
		var below []string
		for _, junior := range names {
			above := junior == senior || found[junior]
			if above {
				below = append(below, junior)
			}
			if o.Above(senior, junior) != above {
				t.Fatalf("New(%q, %q): Above(%q, %q) is %v", names, l, senior, junior, !above)
			}
		}
		if got := o.Below(senior); o.Index(senior) != i || !slices.Equal(got, below) {
			t.Fatalf("New(%q, %q): Index(%q) is %d, Below is %q, not %q", names, l, senior, o.Index(senior), got, below)
		}
	}
	return o, nil
}

// checkSlowSet holds Down and Up of a set against the pairs.
func checkSlowSet(t *testing.T, o *Order, names []string, l []Pair, bits uint32) {
	t.Helper()
	var down, up uint32
	for i, senior := range names {
		found := reached(l, senior)
		found[senior] = true
		for j, junior := range names {
			if found[junior] && bits>>i&1 == 1 {
				down |= 1 << j
			}
			if found[junior] && bits>>j&1 == 1 {
				up |= 1 << i
			}
		}
	}
	if o.Down(bits) != down || o.Up(bits) != up {
		t.Fatalf("New(%q, %q): Down and Up of %b are %b and %b, not %b and %b", names, l, bits, o.Down(bits), o.Up(bits), down, up)
	}
}

// All sets of pairs of few names, and of each order all sets of names, with a bit beyond them.
func TestAllSmallOrders(t *testing.T) {
	orders := []int{1, 1, 3, 25, 543} // how many sets of pairs of 0, 1 .. names go not round
	for n, want := range orders {
		names := numbered(n)
		count := 0
		for chosen := range 1 << (n * n) {
			var l []Pair
			for i := range n * n {
				if chosen>>i&1 == 1 {
					l = append(l, Pair{names[i/n], names[i%n]})
				}
			}
			o, err := checkSlow(t, names, l)
			if err != nil {
				continue
			}
			count++
			for bits := range uint32(2 << n) {
				checkSlowSet(t, o, names, l, bits)
			}
		}
		if count != want {
			t.Errorf("%d orders of %d names, not %d", count, n, want)
		}
	}
}

// someLists returns names, seldom one of them twice or too many, and pairs of them, of which few or none go round or name another one.
func someLists(random *rand.Rand) (names []string, l []Pair) {
	n := random.Intn(api.MaxRoles + 2)
	for _, i := range random.Perm(n) {
		names = append(names, "n"+strconv.Itoa(i))
	}
	rank := random.Perm(n)
	odds := []int{10, 100, 1000000}[random.Intn(3)]
	seldom := func() bool { return random.Intn(odds) == 0 }
	if n > 1 && seldom() {
		names[0] = names[n-1]
	}
	if n == 0 {
		return nil, nil
	}
	for range random.Intn([]int{3, n + 2, n * n}[random.Intn(3)]) {
		i, j := random.Intn(n), random.Intn(n)
		if rank[i] < rank[j] || seldom() {
			l = append(l, Pair{names[i], names[j]})
		}
		if seldom() {
			l = append(l, Pair{"", names[i]})
		}
	}
	return names, l
}

func TestSomeOrders(t *testing.T) {
	random := rand.New(rand.NewSource(4))
	count := map[error]int{}
	for range 2000 {
		names, l := someLists(random)
		o, err := checkSlow(t, names, l)
		count[err]++
		if err != nil {
			continue
		}
		for _, bits := range []uint32{0, 1, 1<<32 - 1, random.Uint32(), random.Uint32() & random.Uint32() & random.Uint32(), 1 << random.Intn(32)} {
			checkSlowSet(t, o, names, l, bits)
		}
		mixed := slices.Clone(l)
		random.Shuffle(len(mixed), func(i, j int) { mixed[i], mixed[j] = mixed[j], mixed[i] })
		checkSameAnswers(t, o, made(t, names, mixed...))
	}
	// Each way out is to be among the lists.
	for _, err := range []error{nil, api.ErrLimit, api.ErrThere, api.ErrNone, api.ErrCircle} {
		if count[err] < 20 {
			t.Errorf("%v %d times alone: %v", err, count[err], count)
		}
	}
}

// checkSameAnswers holds two orders against each other: the pairs may come in any order.
func checkSameAnswers(t *testing.T, a, b *Order) {
	t.Helper()
	for i := range 32 {
		if a.Down(1<<i) != b.Down(1<<i) || a.Up(1<<i) != b.Up(1<<i) {
			t.Fatalf("%q: Down and Up of %d depend on the order of the pairs", a.Names(), i)
		}
	}
}
