package seats

import (
	"errors"
	"math/rand"
	"slices"
	"strconv"
	"strings"
	"testing"

	"imprimatur/api"
	"imprimatur/grants"
	"imprimatur/policy"
	"imprimatur/rights"
)

// The chapter once more, in another way: all sessions that were ever opened are kept, with the names of their active roles; who is above whom is asked by names, along all chains of juniors; all that is wrong is listed, and the first of the list is told.

// law is rules, and their rights.
type law struct {
	rules  []api.Rule
	rights *rights.Rights
}

func lawOf(text string) (law, error) {
	l, err := policy.Parse(strings.ReplaceAll(text, ";", "\n"))
	if err != nil {
		return law{}, err
	}
	r, err := rights.Compile(l)
	return law{l, r}, err
}

func mustLaw(t *testing.T, text string) law {
	t.Helper()
	x, err := lawOf(text)
	if err != nil {
		t.Fatalf("%q: %v", text, err)
	}
	return x
}

// rule returns the rule of a kind and a name.
func (w law) rule(kind int, name string) (api.Rule, bool) {
	at := slices.IndexFunc(w.rules, func(r api.Rule) bool { return r.Kind == kind && r.Name == name })
	if at < 0 {
		return api.Rule{}, false
	}
	return w.rules[at], true
}

func (w law) names(kind int) (l []string) {
	for _, r := range w.rules {
		if r.Kind == kind {
			l = append(l, r.Name)
		}
	}
	return l
}

// above reports whether both are roles, and a chain of juniors, one of none too, leads from high to low.
func (w law) above(high, low string) bool {
	r, there := w.rule(api.Role, high)
	if high == low || !there {
		return there
	}
	return slices.ContainsFunc(r.List, func(junior string) bool { return w.above(junior, low) })
}

// holds reports whether a user has a role by the rule, or by a grant, or one above it.
func (w law) holds(g *grants.Grants, user, role string) bool {
	r, _ := w.rule(api.User, user)
	has := slices.Clone(r.List)
	for _, x := range g.List() {
		if x.To == user {
			has = append(has, x.Role)
		}
	}
	return slices.ContainsFunc(has, func(high string) bool { return w.above(high, role) })
}

// gives reports whether a role gives a permission.
func (w law) gives(role, perm string) bool {
	r, _ := w.rule(api.Perm, perm)
	return slices.ContainsFunc(r.List, func(low string) bool { return w.above(role, low) })
}

// apart reports whether no Dsd has as many of some roles as it names.
func (w law) apart(roles []string) bool {
	for _, r := range w.rules {
		if r.Kind != api.Dsd {
			continue
		}
		n := 0
		for _, role := range r.List {
			if slices.Contains(roles, role) {
				n++
			}
		}
		if n >= r.N {
			return false
		}
	}
	return true
}

// slowSeat is a session that was opened once.
type slowSeat struct {
	user   string
	active []string
	closed bool
}

// slow is all sessions that were ever opened: the number of the first is 1.
type slow []slowSeat

func (s slow) clone() slow {
	s = slices.Clone(s)
	for i := range s {
		s[i].active = slices.Clone(s[i].active)
	}
	return s
}

// numbers returns the numbers of those that are not closed.
func (s slow) numbers() (l []int) {
	for i, x := range s {
		if !x.closed {
			l = append(l, i+1)
		}
	}
	return l
}

func (s slow) there(number int) bool {
	return slices.Contains(s.numbers(), number)
}

// first returns the first error of an order that is wrong.
func first(wrong map[api.Errno]bool, order ...api.Errno) error {
	for _, err := range order {
		if wrong[err] {
			return err
		}
	}
	return nil
}

func (s *slow) open(w law, user string) error {
	err := first(map[api.Errno]bool{
		api.ErrLimit: len(s.numbers()) == api.MaxSessions,
		api.ErrNone:  !slices.Contains(w.names(api.User), user),
	}, api.ErrNone, api.ErrLimit)
	if err == nil {
		*s = append(*s, slowSeat{user: user})
	}
	return err
}

func (s slow) close(number int) error {
	if !s.there(number) {
		return api.ErrNone
	}
	s[number-1].closed = true
	return nil
}

func (s slow) activate(w law, g *grants.Grants, number int, role string) error {
	_, is := w.rule(api.Role, role)
	if !is || !s.there(number) {
		return api.ErrNone
	}
	x := &s[number-1]
	err := first(map[api.Errno]bool{
		api.ErrDuty:   !w.apart(append([]string{role}, x.active...)),
		api.ErrDenied: !w.holds(g, x.user, role),
		api.ErrThere:  slices.Contains(x.active, role),
	}, api.ErrThere, api.ErrDenied, api.ErrDuty)
	if err == nil {
		x.active = append(x.active, role)
	}
	return err
}

func (s slow) drop(number int, role string) error {
	if !s.there(number) || !slices.Contains(s[number-1].active, role) {
		return api.ErrNone
	}
	s[number-1].active = slices.DeleteFunc(s[number-1].active, func(x string) bool { return x == role })
	return nil
}

func (s slow) prune(w law, g *grants.Grants) (l []int) {
	for _, n := range s.numbers() {
		x := &s[n-1]
		before := len(x.active)
		x.active = slices.DeleteFunc(x.active, func(role string) bool { return !w.holds(g, x.user, role) })
		if len(x.active) < before {
			l = append(l, n)
		}
	}
	return l
}

func (s slow) may(w law, number int, perm string) bool {
	return s.there(number) && (perm == "" || slices.ContainsFunc(s[number-1].active, func(role string) bool { return w.gives(role, perm) }))
}

func (s slow) carry(to law) error {
	wrong := map[api.Errno]bool{}
	for _, n := range s.numbers() {
		x := s[n-1]
		if !to.apart(x.active) {
			wrong[api.ErrDuty] = true
		}
		for _, role := range x.active {
			if !slices.Contains(to.names(api.Role), role) {
				wrong[api.ErrNone] = true
			}
		}
		if !slices.Contains(to.names(api.User), x.user) {
			wrong[api.ErrNone] = true
		}
	}
	return first(wrong, api.ErrNone, api.ErrDuty)
}

// list returns the sessions, with the indices of their roles by some law.
func (s slow) list(w law) []Seat {
	l := []Seat{}
	for _, n := range s.numbers() {
		x := Seat{Number: n, User: s[n-1].user}
		for i, role := range w.names(api.Role) {
			if slices.Contains(s[n-1].active, role) {
				x.Active |= 1 << i
			}
		}
		l = append(l, x)
	}
	return l
}

// run is sessions, those of the second reading, the law and the grants that they are asked with, and what was told of them.
type run struct {
	t    *testing.T
	w    law
	g    *grants.Grants
	s    *Seats
	slow slow
	told map[string]int
}

func (x *run) copied() *run {
	return &run{x.t, x.w, x.g.Clone(), x.s.Clone(), x.slow.clone(), x.told}
}

// note counts what a call told, and holds it against the second reading.
func (x *run) note(call string, err, want error) {
	x.t.Helper()
	if want == nil {
		x.told[call]++
	} else {
		x.told[call+" "+want.Error()]++
	}
	if want == nil && err != nil || !errors.Is(err, want) {
		x.t.Errorf("%s tells %v, not %v, of %+v", call, err, want, x.slow)
	}
}

func (x *run) open(user string) {
	x.t.Helper()
	want := x.slow.open(x.w, user)
	n, err := x.s.Open(x.w.rights, user)
	x.note("open", err, want)
	if want == nil && n != len(x.slow) || want != nil && n != 0 {
		x.t.Errorf("%q is opened as %d, with %d ahead of it", user, n, len(x.slow))
	}
}

func (x *run) close(number int) {
	x.t.Helper()
	x.note("close", x.s.Close(number), x.slow.close(number))
}

func (x *run) activate(number int, role string) {
	x.t.Helper()
	x.note("activate", x.s.Activate(x.w.rights, x.g, number, role), x.slow.activate(x.w, x.g, number, role))
}

func (x *run) drop(number int, role string) {
	x.t.Helper()
	x.note("drop", x.s.Drop(x.w.rights, number, role), x.slow.drop(number, role))
}

func (x *run) prune() {
	x.t.Helper()
	want := x.slow.prune(x.w, x.g)
	if got := x.s.Prune(x.w.rights, x.g); !slices.Equal(got, want) {
		x.t.Errorf("Prune tells %v, not %v", got, want)
	}
	x.told["pruned"] += len(want)
}

// carry goes over to another law, if it can.
func (x *run) carry(to law) {
	x.t.Helper()
	want := x.slow.carry(to)
	x.note("carry", x.s.Carry(x.w.rights, to.rights), want)
	if want == nil {
		x.w = to
	}
}

// check holds all that is answered without a change, and that no session has as many active roles of a Dsd set as it names (T3).
func (x *run) check() {
	x.t.Helper()
	want := x.slow.list(x.w)
	if l := x.s.List(); !slices.Equal(l, want) {
		x.t.Errorf("the sessions are %+v, not %+v", l, want)
	}
	perms := append(x.w.names(api.Perm), "", "nothing")
	for n := -1; n <= len(x.slow)+1; n++ {
		seat, ok := x.s.Get(n)
		if ok != x.slow.there(n) || ok && !slices.Contains(want, seat) || seat.Number != 0 && seat.Number != n || !ok && seat != (Seat{}) {
			x.t.Errorf("session %d is %+v, %v, of %+v", n, seat, ok, want)
		}
		for _, perm := range perms {
			may := x.slow.may(x.w, n, perm)
			if got := x.s.May(x.w.rights, n, perm); got != may {
				x.t.Errorf("that session %d may %q is %v, not %v, of %+v", n, perm, got, may, x.slow)
			}
			if may && perm != "" {
				x.told["may"]++
			}
		}
	}
	for _, n := range x.slow.numbers() {
		if active := x.slow[n-1].active; !x.w.apart(active) {
			x.t.Errorf("session %d has %q, which are to be apart", n, active)
		}
	}
}

func checkAllTold(t *testing.T, told map[string]int, least int, calls ...string) {
	t.Helper()
	for _, call := range calls {
		if told[call] < least {
			t.Errorf("%q is told %d times only, of %v", call, told[call], told)
		}
	}
}

// toldBy returns what a call may tell: nothing, or one of some errors.
func toldBy(call string, errs ...api.Errno) []string {
	l := []string{call}
	for _, err := range errs {
		l = append(l, call+" "+err.Error())
	}
	return l
}

// shortCalls are calls that chains are made of.
func shortCalls(t *testing.T, from, to, less law) []func(x *run) {
	calls := []func(x *run){
		func(x *run) { x.open("u") },
		func(x *run) { x.open("v") },
		func(x *run) { x.close(1) },
		func(x *run) { x.close(2) },
		func(x *run) { x.activate(2, "b") },
		func(x *run) { x.drop(1, "a") },
		func(x *run) { x.drop(2, "b") },
		func(x *run) { x.prune() },
		func(x *run) { x.g.Expire(9) },
		func(x *run) { x.carry(to) },
		func(x *run) { x.carry(less) },
		func(x *run) { x.carry(from) },
	}
	for _, role := range []string{"a", "b", "c"} {
		calls = append(calls, func(x *run) { x.activate(1, role) })
	}
	return calls
}

// All chains of up to four calls out of some, each from a copy of the sessions of the one ahead of it, behind each of some beginnings.
func TestAllShortRuns(t *testing.T) {
	from := mustLaw(t, "role a > b;role b;role c;user u a c;user v;perm p b;perm q c;dsd 2 a c;lend b 1 9;lend c 1 20")
	to := mustLaw(t, "role c > b;role b;role a;user v;user u a;perm q a b;dsd 2 b c;lend b 1 9")
	less := mustLaw(t, "role b;role a;user u b;perm p a b;dsd 2 a b")
	told := map[string]int{}
	calls := shortCalls(t, from, to, less)
	var walk func(from *run, left int)
	walk = func(from *run, left int) {
		before, w := from.slow.list(from.w), from.w
		for _, call := range calls {
			x := from.copied()
			call(x)
			x.check()
			if left > 1 && !t.Failed() {
				walk(x, left-1)
			}
		}
		if l := from.s.List(); !slices.Equal(l, before) || w.rights != from.w.rights {
			t.Errorf("what was done to copies changed the sessions to %+v, from %+v", l, before)
		}
	}
	for _, beginning := range []func(x *run){
		func(x *run) {},
		func(x *run) { x.open("u"); x.open("v"); x.activate(1, "b"); x.activate(2, "b") },
		func(x *run) { x.open("v"); x.open("u"); x.activate(1, "c"); x.activate(2, "a") },
	} {
		x := &run{t, from, lent(t, from.rights, "u v b 0 0 9", "u v c 0 0 12"), New(), nil, told}
		beginning(x)
		x.check()
		walk(x, 4)
	}
	checkAllTold(t, told, 100, toldBy("open", api.ErrNone)...)
	checkAllTold(t, told, 100, toldBy("activate", api.ErrNone, api.ErrThere, api.ErrDenied, api.ErrDuty)...)
	checkAllTold(t, told, 100, toldBy("carry", api.ErrNone, api.ErrDuty)...)
	checkAllTold(t, told, 100, append(append(toldBy("close", api.ErrNone), toldBy("drop", api.ErrNone)...), "pruned", "may")...)
}

// pick returns a name with a number out of n, seldom of one more, or of none.
func pick(random *rand.Rand, letter string, n int) string {
	switch random.Intn(60) {
	case 0:
		return letter + strconv.Itoa(n)
	case 1:
		return ""
	}
	return letter + strconv.Itoa(random.Intn(n))
}

// some returns some of the names of a letter and the numbers from the first one on.
func some(random *rand.Rand, letter string, first, n, oneOf int) (l []string) {
	for i := first; i < n; i++ {
		if random.Intn(oneOf) == 0 {
			l = append(l, letter+strconv.Itoa(i))
		}
	}
	return l
}

// someLines returns the lines of a law of n roles, users and permissions; each role is above some of the later ones.
func someLines(random *rand.Rand, n int) (lines []string) {
	for i := range n {
		number := strconv.Itoa(i)
		juniors := some(random, "r", i+1, n, n)
		if len(juniors) > 0 {
			juniors = append([]string{">"}, juniors...)
		}
		lines = append(lines, strings.Join(append([]string{"role", "r" + number}, juniors...), " "))
		lines = append(lines, strings.Join(append([]string{"user", "u" + number}, some(random, "r", 0, n, 1+n/2)...), " "))
		lines = append(lines, strings.Join(append([]string{"perm", "p" + number}, some(random, "r", 0, n, n)...), " "))
		lines = append(lines, "lend r"+number+" 2 30")
	}
	for range random.Intn(4) {
		if set := some(random, "r", 0, n, 2); len(set) > 1 {
			lines = append(lines, "dsd "+strconv.Itoa(2+random.Intn(len(set)-1))+" "+strings.Join(set, " "))
		}
	}
	return lines
}

// someLaws returns a law and others that are like it: their lines stand in other orders, some are missing, some roles are apart in these alone.
func someLaws(random *rand.Rand, n int) (laws []law) {
	lines := someLines(random, n)
	for len(laws) < 3 {
		some := slices.Clone(lines)
		if len(laws) > 0 {
			some = slices.DeleteFunc(some, func(string) bool { return random.Intn(4*n) == 0 })
			random.Shuffle(len(some), func(i, j int) { some[i], some[j] = some[j], some[i] })
			if random.Intn(2) == 0 {
				some = append(some, "dsd 2 r"+strconv.Itoa(random.Intn(n))+" r"+strconv.Itoa(random.Intn(n)))
			}
		}
		if w, err := lawOf(strings.Join(some, ";")); err == nil {
			laws = append(laws, w)
		}
	}
	return laws
}

// lend changes the grants: one more, or one less, or some that are over.
func (x *run) lend(random *rand.Rand, n int) {
	switch l := x.g.List(); random.Intn(6) {
	case 0:
		if len(l) > 0 {
			gone := l[random.Intn(len(l))]
			if err := x.g.Revoke(gone.Number, gone.From); err != nil {
				x.t.Errorf("%+v is not revoked: %v", gone, err)
			}
		}
	case 1:
		x.g.Expire(random.Intn(40))
	default:
		// Whether it is given is package grants' to tell.
		from := pick(random, "u", n)
		x.g.Give(x.w.rights, from, pick(random, "u", n), x.held(random, from, n), 0, random.Intn(20), 1+random.Intn(20))
	}
}

// held returns mostly a role that a user holds.
func (x *run) held(random *rand.Rand, user string, n int) string {
	l := slices.DeleteFunc(x.w.names(api.Role), func(role string) bool { return !x.w.holds(x.g, user, role) })
	if len(l) == 0 || random.Intn(4) == 0 {
		return pick(random, "r", n)
	}
	return l[random.Intn(len(l))]
}

// activateSome makes a role active, mostly one that the user holds.
func (x *run) activateSome(random *rand.Rand, number, n int) {
	x.t.Helper()
	user := ""
	if x.slow.there(number) {
		user = x.slow[number-1].user
	}
	x.activate(number, x.held(random, user, n))
}

// someRun makes some calls; where each change of the grants is followed by Prune, all that is active is held (T2).
func someRun(t *testing.T, random *rand.Rand, told map[string]int, n, length int, pruned bool) {
	t.Helper()
	laws := someLaws(random, n)
	x := &run{t, laws[0], grants.New(), New(), nil, told}
	for range length {
		number := random.Intn(len(x.slow)+3) - 1
		if l := x.slow.numbers(); len(l) > 0 && random.Intn(8) > 0 {
			number = l[random.Intn(len(l))]
		}
		switch random.Intn(24) {
		case 0, 1, 2, 3:
			x.open(pick(random, "u", n))
		case 4:
			x.close(number)
		case 5, 6:
			x.drop(number, pick(random, "r", n))
		case 7, 8, 9, 10:
			x.lend(random, n)
			if pruned {
				x.prune()
			}
		case 11:
			x.prune()
		case 12:
			x.carry(laws[random.Intn(len(laws))])
			if pruned {
				x.prune()
			}
		case 13:
			old := x.s
			x.s = old.Clone()
			old.Prune(x.w.rights, grants.New())
			old.Close(number)
			old.Carry(laws[0].rights, laws[1].rights)
		default:
			x.activateSome(random, number, n)
		}
		x.check()
		if pruned {
			x.checkHeld()
		}
		if t.Failed() {
			return
		}
	}
}

// checkHeld holds that each active role is one that the session's user holds.
func (x *run) checkHeld() {
	x.t.Helper()
	for _, seat := range x.s.List() {
		if seat.Active&^x.g.Holds(x.w.rights, seat.User) != 0 {
			x.t.Errorf("what is active in %+v is more than its user holds", seat)
		}
	}
}

func TestSomeRuns(t *testing.T) {
	random := rand.New(rand.NewSource(13))
	told := map[string]int{}
	for i := range 1200 {
		someRun(t, random, told, 2+random.Intn(5), 80, i%2 == 0)
		if t.Failed() {
			return
		}
	}
	checkAllTold(t, told, 100, toldBy("open", api.ErrNone)...)
	checkAllTold(t, told, 100, toldBy("activate", api.ErrNone, api.ErrThere, api.ErrDenied, api.ErrDuty)...)
	checkAllTold(t, told, 100, toldBy("carry", api.ErrNone, api.ErrDuty)...)
	checkAllTold(t, told, 100, append(append(toldBy("close", api.ErrNone), toldBy("drop", api.ErrNone)...), "pruned", "may")...)
}

// More users and roles, and sessions up to as many as there may be.
func TestGreatRuns(t *testing.T) {
	random := rand.New(rand.NewSource(14))
	told := map[string]int{}
	for i := range 60 {
		someRun(t, random, told, 8+random.Intn(api.MaxUsers-7), 400, i%2 == 0)
		if t.Failed() {
			return
		}
	}
	checkAllTold(t, told, 50, toldBy("open", api.ErrNone, api.ErrLimit)...)
	checkAllTold(t, told, 50, toldBy("activate", api.ErrThere, api.ErrDenied, api.ErrDuty)...)
	checkAllTold(t, told, 20, "carry", "carry "+api.ErrNone.Error(), "pruned")
}
