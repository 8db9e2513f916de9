package grants

import (
	"errors"
	"math/rand"
	"slices"
	"strconv"
	"strings"
	"testing"

	"imprimatur/api"
	"imprimatur/policy"
	"imprimatur/rights"
)

// The chapter once more, in another way: all grants that were ever given are kept, and which of them are there, how deep they are and how long they last is asked along their ways; who is above whom is asked by names, along all chains of juniors; all that is wrong is listed, and the first of the list is told.

// law is rules, and their rights.
type law struct {
	rules  []api.Rule
	rights *rights.Rights
}

func lawOf(text string) (law, error) {
	l, err := policy.Parse(strings.ReplaceAll(text, ";", "\n"))
	if err != nil {
		return law{}, err
	}
	r, err := rights.Compile(l)
	return law{l, r}, err
}

func mustLaw(t *testing.T, text string) law {
	t.Helper()
	x, err := lawOf(text)
	if err != nil {
		t.Fatalf("%q: %v", text, err)
	}
	return x
}

// rule returns the rule of a kind and a name.
func (w law) rule(kind int, name string) (api.Rule, bool) {
	at := slices.IndexFunc(w.rules, func(r api.Rule) bool { return r.Kind == kind && r.Name == name })
	if at < 0 {
		return api.Rule{}, false
	}
	return w.rules[at], true
}

func (w law) names(kind int) (l []string) {
	for _, r := range w.rules {
		if r.Kind == kind {
			l = append(l, r.Name)
		}
	}
	return l
}

// above reports whether both are roles, and a chain of juniors, one of none too, leads from high to low.
func (w law) above(high, low string) bool {
	r, there := w.rule(api.Role, high)
	if high == low || !there {
		return there
	}
	return slices.ContainsFunc(r.List, func(junior string) bool { return w.above(junior, low) })
}

// under returns the names of the roles that some roles are above.
func (w law) under(roles []string) (l []string) {
	for _, low := range w.names(api.Role) {
		if slices.ContainsFunc(roles, func(high string) bool { return w.above(high, low) }) {
			l = append(l, low)
		}
	}
	return l
}

// apart reports whether no Ssd has as many of some roles as it names.
func (w law) apart(roles []string) bool {
	for _, r := range w.rules {
		n := 0
		for _, role := range r.List {
			if r.Kind == api.Ssd && slices.Contains(roles, role) {
				n++
			}
		}
		if r.Kind == api.Ssd && n >= r.N {
			return false
		}
	}
	return true
}

// slowGrant is a grant that was given once: own is its time without that of its way.
type slowGrant struct {
	from, to, role string
	way, own       int
	ended          bool
}

// slow is all grants that were ever given: the number of the first is 1.
type slow []slowGrant

// hands returns the numbers of a grant and of all on its way, from the last to the first; none if it is not there.
func (s slow) hands(number int) (l []int) {
	for number != 0 {
		if number < 0 || number > len(s) || s[number-1].ended {
			return nil
		}
		l = append(l, number)
		number = s[number-1].way
	}
	return l
}

func (s slow) until(hands []int) int {
	until := s[hands[0]-1].own
	for _, number := range hands {
		until = min(until, s[number-1].own)
	}
	return until
}

func (s slow) list() (l []Grant) {
	for i, x := range s {
		if hands := s.hands(i + 1); hands != nil {
			l = append(l, Grant{i + 1, x.from, x.to, x.role, s.until(hands), len(hands), x.way})
		}
	}
	return l
}

// holds returns the names of the roles that a user may activate.
func (s slow) holds(w law, user string) []string {
	r, _ := w.rule(api.User, user)
	roles := slices.Clone(r.List)
	for _, x := range s.list() {
		if x.To == user {
			roles = append(roles, x.Role)
		}
	}
	return w.under(roles)
}

// may reports whether from may lend a role by way of some hands (none: by its rule).
func (s slow) may(w law, from, role string, hands []int) bool {
	loan, lent := w.rule(api.Lend, role)
	if !lent || len(hands)+1 > loan.N {
		return false
	}
	if len(hands) == 0 {
		r, _ := w.rule(api.User, from)
		return slices.Contains(w.under(r.List), role)
	}
	by := s[hands[0]-1]
	return by.to == from && w.above(by.role, role)
}

// give gives a grant, or returns the first error.
func (s *slow) give(w law, a ask) error {
	users, roles := w.names(api.User), w.names(api.Role)
	loan, lent := w.rule(api.Lend, a.role)
	hands := s.hands(a.way)
	wrong := map[api.Errno]int{}
	add := func(err api.Errno, is bool) {
		if is {
			wrong[err]++
		}
	}
	add(api.ErrDuty, !w.apart(w.under(append(s.holds(w, a.to), a.role))))
	add(api.ErrLimit, len(s.list()) == api.MaxGrants)
	add(api.ErrThere, slices.ContainsFunc(s.list(), func(x Grant) bool { return x.To == a.to && x.Role == a.role }))
	add(api.ErrTime, a.now > api.MaxTime-a.time)
	add(api.ErrDenied, a.way != 0 && hands == nil || !s.may(w, a.from, a.role, hands))
	add(api.ErrArg, a.now < 0 || a.now > api.MaxTime || a.time <= 0 || a.from == a.to || lent && loan.M < a.time)
	add(api.ErrNone, !slices.Contains(users, a.from) || !slices.Contains(users, a.to) || !slices.Contains(roles, a.role))
	for _, err := range []api.Errno{api.ErrNone, api.ErrArg, api.ErrDenied, api.ErrTime, api.ErrThere, api.ErrLimit, api.ErrDuty} {
		if wrong[err] > 0 {
			return err
		}
	}
	*s = append(*s, slowGrant{a.from, a.to, a.role, a.way, a.now + a.time, false})
	return nil
}

func (s slow) revoke(number int, by string) error {
	if s.hands(number) == nil {
		return api.ErrNone
	}
	if s[number-1].from != by {
		return api.ErrDenied
	}
	s[number-1].ended = true
	return nil
}

func (s slow) expire(now int) (gone []int) {
	before := s.list()
	for _, x := range before {
		if x.Until <= now {
			s[x.Number-1].ended = true
		}
	}
	for _, x := range before {
		if s.hands(x.Number) == nil {
			gone = append(gone, x.Number)
		}
	}
	return gone
}

func (s slow) sound(w law) error {
	users, roles := w.names(api.User), w.names(api.Role)
	for _, x := range s.list() {
		if !slices.Contains(users, x.From) || !slices.Contains(users, x.To) || !slices.Contains(roles, x.Role) {
			return api.ErrNone
		}
		if !s.may(w, x.From, x.Role, s.hands(x.Way)) {
			return api.ErrDenied
		}
	}
	if slices.ContainsFunc(users, func(user string) bool { return !w.apart(s.holds(w, user)) }) {
		return api.ErrDuty
	}
	return nil
}

// run is grants, those of the second reading, and what was told of them.
type run struct {
	t    *testing.T
	g    *Grants
	s    slow
	told map[string]int
}

// note counts what a call told, and holds it against the second reading.
func (x *run) note(call string, err, want error) {
	x.t.Helper()
	if want == nil {
		x.told[call]++
	} else {
		x.told[call+" "+want.Error()]++
	}
	if want == nil && err != nil || !errors.Is(err, want) {
		x.t.Errorf("%s tells %v, not %v, of %+v", call, err, want, x.s.list())
	}
}

func (x *run) give(w law, a ask) {
	x.t.Helper()
	want := x.s.give(w, a)
	n, err := give(x.g, w.rights, a)
	x.note("give", err, want)
	if want == nil && n != len(x.s) || want != nil && n != 0 {
		x.t.Errorf("%+v is given as %d, with %d ahead of it", a, n, len(x.s))
	}
	if want == nil && a.way != 0 {
		x.told["by way"]++
	}
}

func (x *run) revoke(number int, by string) {
	x.t.Helper()
	x.note("revoke", x.g.Revoke(number, by), x.s.revoke(number, by))
}

func (x *run) expire(now int) {
	x.t.Helper()
	want := x.s.expire(now)
	if got := x.g.Expire(now); !slices.Equal(got, want) {
		x.t.Errorf("Expire(%d) is %v, not %v", now, got, want)
	}
	x.told["gone"] += len(want)
}

// check holds all that is answered without a change.
func (x *run) check(users []string, laws ...law) {
	x.t.Helper()
	if l, want := x.g.List(), x.s.list(); !slices.Equal(l, want) {
		x.t.Errorf("the grants are %+v, not %+v", l, want)
	}
	for _, w := range laws {
		for _, user := range users {
			want, held := uint32(0), x.s.holds(w, user)
			for i, role := range w.names(api.Role) {
				if slices.Contains(held, role) {
					want |= 1 << i
				}
			}
			if got := x.g.Holds(w.rights, user); got != want {
				x.t.Errorf("%q holds %b, not %b, by %+v", user, got, want, x.s.list())
			}
		}
		x.note("sound", x.g.Sound(w.rights), x.s.sound(w))
	}
}

func checkAllTold(t *testing.T, told map[string]int, least int, calls ...string) {
	t.Helper()
	for _, call := range calls {
		if told[call] < least {
			t.Errorf("%q is told %d times only, of %v", call, told[call], told)
		}
	}
}

// toldBy returns what a call may tell: nothing, or one of some errors.
func toldBy(call string, errs ...api.Errno) []string {
	l := []string{call}
	for _, err := range errs {
		l = append(l, call+" "+err.Error())
	}
	return l
}

// All chains of up to four calls out of some, each from a copy of the grants of the one ahead of it.
func TestAllShortRuns(t *testing.T) {
	w := mustLaw(t, "role a > b;role b;role c;user x a;user y c;user z;lend a 2 9;lend b 3 5;lend c 1 7;ssd 2 a c")
	other := mustLaw(t, "role c;role b;role a;user z;user x a b;user y c;lend a 2 9;lend b 2 5;lend c 1 7;ssd 2 b c")
	var calls []func(x *run)
	for _, text := range []string{"x z a 0 0 9", "x z b 0 1 5", "x y b 0 2 3", "y z c 0 0 7", "z y b 1 3 5", "z x a 1 0 1", "y x b 2 1 2", "z y a 1 8 9"} {
		calls = append(calls, func(x *run) { x.give(w, asking(text)) })
	}
	calls = append(calls,
		func(x *run) { x.give(other, asking("x z b 0 0 4")) },
		func(x *run) { x.revoke(1, "x") },
		func(x *run) { x.revoke(2, "z") },
		func(x *run) { x.expire(5) },
		func(x *run) { x.expire(7) },
	)
	told := map[string]int{}
	users := []string{"x", "y", "z", "nobody"}
	var walk func(from *run, left int)
	walk = func(from *run, left int) {
		for _, call := range calls {
			x := &run{t, from.g.Clone(), slices.Clone(from.s), told}
			call(x)
			x.check(users, w, other)
			if left > 1 && !t.Failed() {
				walk(x, left-1)
			}
		}
		if l := from.g.List(); !slices.Equal(l, from.s.list()) {
			t.Errorf("what was done to copies changed the grants to %+v, from %+v", l, from.s.list())
		}
	}
	walk(&run{t, New(), nil, told}, 4)
	checkAllTold(t, told, 100, toldBy("give", api.ErrDenied, api.ErrThere, api.ErrDuty)...)
	checkAllTold(t, told, 100, toldBy("sound", api.ErrDenied, api.ErrDuty)...)
	checkAllTold(t, told, 100, append(toldBy("revoke", api.ErrNone, api.ErrDenied), "by way", "gone")...)
}

// pick returns a name with a number out of n, seldom of one more, or of none.
func pick(random *rand.Rand, letter string, n int) string {
	switch random.Intn(40) {
	case 0:
		return letter + strconv.Itoa(n)
	case 1:
		return ""
	}
	return letter + strconv.Itoa(random.Intn(n))
}

// some returns some of the names of a letter and the numbers from the first one on.
func some(random *rand.Rand, letter string, first, n, oneOf int) (l []string) {
	for i := first; i < n; i++ {
		if random.Intn(oneOf) == 0 {
			l = append(l, letter+strconv.Itoa(i))
		}
	}
	return l
}

// someLaw returns a law of up to n roles and n users, most of whom are there; each role is above some of the later ones.
func someLaw(random *rand.Rand, n int) law {
	for {
		var lines []string
		users, roles := some(random, "u", 0, n, 1), some(random, "r", 0, n, 1)
		if random.Intn(3) == 0 {
			users = slices.Delete(users, 0, 1)
		}
		for _, user := range users {
			lines = append(lines, strings.Join(append([]string{"user", user}, some(random, "r", 0, n, n)...), " "))
		}
		for i, role := range roles {
			juniors := some(random, "r", i+1, n, n)
			if len(juniors) > 0 {
				juniors = append([]string{">"}, juniors...)
			}
			lines = append(lines, strings.Join(append([]string{"role", role}, juniors...), " "))
			if random.Intn(8) > 0 {
				lines = append(lines, "lend "+role+" "+strconv.Itoa(1+random.Intn(4))+" "+strconv.Itoa(5+random.Intn(20)))
			}
		}
		for range random.Intn(3) {
			if set := some(random, "r", 0, n, 2); len(set) > 1 {
				lines = append(lines, "ssd "+strconv.Itoa(2+random.Intn(len(set)-1))+" "+strings.Join(set, " "))
			}
		}
		random.Shuffle(len(lines), func(i, j int) { lines[i], lines[j] = lines[j], lines[i] })
		if x, err := lawOf(strings.Join(lines, ";")); err == nil {
			return x
		}
	}
}

// someAsk asks for anything, or for something that may well be given: a role that from has by the rule, or by way of a grant that there is.
func someAsk(random *rand.Rand, n int, w law, s slow) ask {
	a := ask{pick(random, "u", n), pick(random, "u", n), pick(random, "r", n), 0, random.Intn(30), 1 + random.Intn(8)}
	if a.from == a.to {
		a.to = pick(random, "u", n)
	}
	if r, ok := w.rule(api.User, a.from); ok && len(r.List) > 0 && random.Intn(2) == 0 {
		l := w.under(r.List)
		a.role = l[random.Intn(len(l))]
	}
	if l := s.list(); len(l) > 0 && random.Intn(3) == 0 {
		x := l[random.Intn(len(l))]
		a.from, a.way = x.To, x.Number
		if random.Intn(2) == 0 {
			a.role = x.Role
		}
	}
	switch random.Intn(40) {
	case 0:
		a.way = random.Intn(len(s)+3) - 1
	case 1:
		a.now = api.MaxTime - random.Intn(12)
	case 2:
		a.now, a.time = -random.Intn(2), random.Intn(2)
	case 3:
		a.time = random.Intn(30)
	}
	return a
}

// someRun makes some calls; while there is one law alone, the grants are sound by it.
func someRun(t *testing.T, random *rand.Rand, told map[string]int, n, length int, laws ...law) {
	t.Helper()
	x := &run{t, New(), nil, told}
	users := append(some(random, "u", 0, n+1, 1), "", "nobody", "r0")
	for range length {
		switch random.Intn(60) {
		case 0, 1, 2:
			number := random.Intn(len(x.s)+2) - random.Intn(2)
			by := pick(random, "u", n)
			if random.Intn(3) > 0 && number > 0 && number <= len(x.s) {
				by = x.s[number-1].from
			}
			x.revoke(number, by)
		case 3:
			x.expire(random.Intn(40))
		case 4:
			old := x.g
			x.g = old.Clone()
			old.Expire(random.Intn(1 << 31))
		default:
			w := laws[random.Intn(len(laws))]
			x.give(w, someAsk(random, n, w, x.s))
		}
		x.check(users, laws...)
		if err := x.g.Sound(laws[0].rights); len(laws) == 1 && err != nil {
			t.Errorf("the grants %+v are not sound by the only law: %v", x.g.List(), err)
		}
		if t.Failed() {
			return
		}
	}
}

func TestSomeRuns(t *testing.T) {
	random := rand.New(rand.NewSource(12))
	told := map[string]int{}
	for range 600 {
		n := 2 + random.Intn(4)
		someRun(t, random, told, n, 40, someLaw(random, n))
		someRun(t, random, told, n, 40, someLaw(random, n), someLaw(random, n))
		if t.Failed() {
			return
		}
	}
	checkAllTold(t, told, 100, toldBy("give", api.ErrNone, api.ErrArg, api.ErrDenied, api.ErrTime, api.ErrThere, api.ErrDuty)...)
	checkAllTold(t, told, 100, toldBy("sound", api.ErrNone, api.ErrDenied, api.ErrDuty)...)
	checkAllTold(t, told, 100, append(toldBy("revoke", api.ErrNone, api.ErrDenied), "by way", "gone")...)
}

// More users, roles and grants, up to as many as there may be.
func TestGreatRuns(t *testing.T) {
	random := rand.New(rand.NewSource(13))
	told := map[string]int{}
	for range 40 {
		n := api.MaxUsers - random.Intn(3)
		someRun(t, random, told, n, 400, someLaw(random, n))
		if t.Failed() {
			return
		}
	}
	checkAllTold(t, told, 50, toldBy("give", api.ErrDenied, api.ErrThere, api.ErrLimit)...)
	checkAllTold(t, told, 50, "by way", "gone", "revoke")
}
