package staff

import (
	"math/rand"
	"slices"
	"strconv"
	"strings"
	"testing"

	"imprimatur/api"
	"imprimatur/chart"
	"imprimatur/enter"
	"imprimatur/grants"
	"imprimatur/paper"
	"imprimatur/policy"
	"imprimatur/rights"
	"imprimatur/seats"
	"imprimatur/shape"
	"imprimatur/step"
)

// The chapter once more, in other ways. Who is able is asked of the rules, by names, along all chains of roles; Find is asked against all lists of users, each of which is tried as a whole. A path is what documents take of themselves; and what Find answers is held against what users really perform (T7).

// rules are the rules of a text, whose lines are separated by semicolons.
type rules []api.Rule

func rulesOf(t *testing.T, text string) rules {
	t.Helper()
	l, err := policy.Parse(strings.ReplaceAll(text, ";", "\n"))
	if err != nil {
		t.Fatalf("%q: %v", text, err)
	}
	return l
}

// named returns the list of the rule of a kind and a name.
func (l rules) named(kind int, name string) (list []string, ok bool) {
	for _, x := range l {
		if x.Kind == kind && x.Name == name {
			return x.List, true
		}
	}
	return nil, false
}

// users returns the names of the users.
func (l rules) users() (names []string) {
	for _, x := range l {
		if x.Kind == api.User {
			names = append(names, x.Name)
		}
	}
	return names
}

// reaches reports whether a role is another one, or a chain of juniors leads to it.
func (l rules) reaches(senior, junior string) bool {
	if senior == junior {
		return true
	}
	juniors, _ := l.named(api.Role, senior)
	for _, next := range juniors {
		if l.reaches(next, junior) {
			return true
		}
	}
	return false
}

func (l rules) able(user, perm string) bool {
	has, there := l.named(api.User, user)
	if perm == "" {
		return there
	}
	given, _ := l.named(api.Perm, perm)
	for _, senior := range has {
		for _, junior := range given {
			if l.reaches(senior, junior) {
				return true
			}
		}
	}
	return false
}

// apart reports whether some Exclusive has two tasks, which are not the same.
func (l rules) apart(a, b string) bool {
	for _, x := range l {
		if x.Kind == api.Exclusive && a != b && slices.Contains(x.List, a) && slices.Contains(x.List, b) {
			return true
		}
	}
	return false
}

// fits reports whether users, one for each transition, may perform them.
func (l rules) fits(users []string, parts []chart.Trans) bool {
	for i, x := range parts {
		if !l.able(users[i], x.Perm) {
			return false
		}
		for j, y := range parts {
			if users[i] == users[j] && l.apart(x.Task, y.Task) {
				return false
			}
		}
	}
	return true
}

// first returns the first list of so many of the names, in their order, that something holds for.
func first(names []string, n int, holds func(l []string) bool) ([]string, bool) {
	at := make([]int, n)
	for {
		l := make([]string, n)
		for i, name := range at {
			if name >= len(names) {
				return nil, false
			}
			l[i] = names[name]
		}
		if holds(l) {
			return l, true
		}
		i := n - 1
		for ; i >= 0 && at[i] == len(names)-1; i-- {
			at[i] = 0
		}
		if i < 0 {
			return nil, false
		}
		at[i]++
	}
}

// checkFound holds Find against all lists of users.
func (l rules) checkFound(t *testing.T, r *rights.Rights, c chart.Chart, path []int) {
	t.Helper()
	var parts []chart.Trans
	for _, trans := range path {
		parts = append(parts, c.Trans[trans])
	}
	want, ok := first(l.users(), len(path), func(users []string) bool { return l.fits(users, parts) })
	if ok {
		checkFind(t, r, c, path, strings.Join(want, " "))
	} else {
		checkFindNone(t, r, c, path)
	}
	if t.Failed() {
		t.Fatalf("the rules are %+v", l)
	}
}

// paths calls a function with each list of up to so many of n transitions.
func paths(n, longest int, each func(path []int)) {
	l := [][]int{{}}
	for len(l) > 0 {
		path := l[0]
		l = l[1:]
		each(path)
		for trans := range n {
			if len(path) < longest {
				l = append(l, append(slices.Clone(path), trans))
			}
		}
	}
}

func TestAllShortPaths(t *testing.T) {
	transitions := "go go/p go/q go=x go=y go=z go/p=x go/p=y go/q=y go/q=z go/none=x 0>0"
	for _, text := range []string{
		"role a;user u a;user v;perm p a;perm q a;exclusive x y",
		"role a > b;role b;user u a;user v b;user w;perm p a;perm q b;exclusive x y;exclusive y z",
		"role a;role b;user u a b;user v a;user w b;perm p a;perm q b;exclusive x y z",
	} {
		l, c := rulesOf(t, text), of("p", transitions)
		r := law(t, text)
		paths(len(c.Trans), 4, func(path []int) { l.checkFound(t, r, c, path) })
	}
}

// A choice that is taken back far ahead comes of long paths alone.
func TestAllLongPaths(t *testing.T) {
	text := "role a;role b;user u a b;user v a;user w b;perm p a;perm q b;exclusive x y;exclusive y z"
	l, c := rulesOf(t, text), of("p", "go/p=x go/q=y go/p=z")
	r := law(t, text)
	paths(len(c.Trans), api.MaxPath, func(path []int) { l.checkFound(t, r, c, path) })
}

// some returns some of the words, each with an even chance, at least so many, in any order.
func some(random *rand.Rand, words []string, least int) string {
	l := slices.Clone(words)
	random.Shuffle(len(l), func(i, j int) { l[i], l[j] = l[j], l[i] })
	n := least
	for range len(l) - least {
		n += random.Intn(2)
	}
	return strings.Join(l[:n], " ")
}

func numbered(letter string, n int) (l []string) {
	for i := range n {
		l = append(l, letter+strconv.Itoa(i))
	}
	return l
}

// randomLaw returns the text of rules with up to so many roles and users.
func randomLaw(random *rand.Rand, roles, users int) string {
	names := numbered("r", 1+random.Intn(roles))
	tasks := numbered("t", 5)
	var lines []string
	for i, name := range names {
		line := "role " + name
		if below := names[i+1:]; len(below) > 0 && random.Intn(2) == 0 {
			line += " > " + below[random.Intn(len(below))]
		}
		lines = append(lines, line)
	}
	few := func() string {
		return some(random, names[random.Intn(len(names)):], 0)
	}
	for _, user := range numbered("u", random.Intn(users+1)) {
		lines = append(lines, "user "+user+" "+few())
	}
	for _, perm := range numbered("p", 4) {
		lines = append(lines, "perm "+perm+" "+few())
	}
	for range random.Intn(4) {
		lines = append(lines, "exclusive "+some(random, tasks[random.Intn(3):], 2))
	}
	random.Shuffle(len(lines), func(i, j int) { lines[i], lines[j] = lines[j], lines[i] })
	return strings.Join(lines, ";")
}

// randomLabel returns what an event asks for: some permission, or none, or one that there is not, and some task, or none.
func randomLabel(random *rand.Rand) string {
	label := ""
	if n := random.Intn(6); n < 5 {
		label += "/p" + strconv.Itoa(n)
	}
	if n := random.Intn(7); n < 6 {
		label += "=t" + strconv.Itoa(n)
	}
	return label
}

func TestRandomAble(t *testing.T) {
	random := rand.New(rand.NewSource(1))
	for range 2000 {
		text := randomLaw(random, 1+random.Intn(api.MaxRoles), api.MaxUsers)
		l, r := rulesOf(t, text), law(t, text)
		for _, user := range append(numbered("u", api.MaxUsers), "", "r0") {
			for _, perm := range append(numbered("p", 5), "", "r0") {
				if able := Able(r, user, perm); able != l.able(user, perm) {
					t.Fatalf("%q: Able(%q, %q) is %t", text, user, perm, able)
				}
			}
		}
	}
}

func TestRandomFind(t *testing.T) {
	random := rand.New(rand.NewSource(2))
	for range 6000 {
		text := randomLaw(random, 5, 5)
		var labels []string
		for range 1 + random.Intn(6) {
			labels = append(labels, "go"+randomLabel(random))
		}
		c := of("p", strings.Join(labels, " "))
		path := make([]int, random.Intn(api.MaxPath+1))
		for i := range path {
			path[i] = random.Intn(len(c.Trans))
		}
		rulesOf(t, text).checkFound(t, law(t, text), c, path)
	}
}

// taken returns what a document takes at some events, each of the innermost state first, and the error that ends it.
func taken(c chart.Chart, events []string) (path []int, err error) {
	if len(events) > api.MaxPath {
		return nil, api.ErrLimit
	}
	x := step.Config{Past: make([]uint32, len(c.Shape.Kinds)), Since: make([]int, len(c.Shape.Kinds))}
	for _, state := range enter.Start(c.Shape) {
		x.Set |= 1 << state
	}
	if x, err = quiet(c, x); err != nil {
		return nil, err
	}
	for _, event := range events {
		trans := innermost(c, x, api.On, event)
		if trans < 0 {
			return nil, api.ErrState
		}
		path = append(path, trans)
		x, _ = step.Take(c, x, trans, 0)
		if x, err = quiet(c, x); err != nil {
			return nil, err
		}
	}
	return path, nil
}

// quiet returns where a document stands when nothing goes by itself any more.
func quiet(c chart.Chart, x step.Config) (step.Config, error) {
	for range api.MaxMicro + 1 {
		trans := innermost(c, x, api.Auto, "")
		if trans < 0 {
			return x, nil
		}
		x, _ = step.Take(c, x, trans, 0)
	}
	return x, api.ErrLoop
}

// innermost returns the first of the innermost transitions from where a document stands, -1 if there is none.
func innermost(c chart.Chart, x step.Config, kind int, event string) int {
	best := -1
	for i, y := range c.Trans {
		if y.Kind != kind || y.Event != event || x.Set&(1<<y.From) == 0 {
			continue
		}
		if best < 0 || shape.Level(c.Shape, y.From) > shape.Level(c.Shape, c.Trans[best].From) {
			best = i
		}
	}
	return best
}

// checkTaken holds Path against what a document takes, step by step.
func checkTaken(t *testing.T, c chart.Chart, events []string) {
	t.Helper()
	path, err := taken(c, events)
	if err != nil {
		checkPathError(t, c, events, err)
	} else {
		checkPath(t, c, strings.Join(events, " "), path...)
	}
	if t.Failed() {
		t.FailNow()
	}
}

// All charts of two states with up to three of eight transitions, at all chains of up to three of two events.
func TestAllSmallCharts(t *testing.T) {
	words := strings.Fields("go:0>0 go:0>1 go:1>0 go:1>1 to:0>1 to:1>0 0>1 1>0")
	for _, states := range []string{"p p", "p p0"} {
		paths(len(words), 3, func(l []int) {
			var transitions []string
			for _, i := range l {
				transitions = append(transitions, words[i])
			}
			c := of(states, strings.Join(transitions, " "))
			paths(2, 3, func(l []int) {
				var events []string
				for _, i := range l {
					events = append(events, []string{"go", "to"}[i])
				}
				checkTaken(t, c, events)
			})
		})
	}
}

// randomChart returns a valid chart of up to so many states, whose Ons have one of four events and what randomLabel tells.
func randomChart(random *rand.Rand, most, transitions, autos int) chart.Chart {
	for {
		var states, words []string
		n := 1 + random.Intn(most)
		for i := range n {
			word := string("ppppaahd"[random.Intn(8)])
			if parent := random.Intn(i+2) - 1; parent >= 0 {
				word += strconv.Itoa(parent)
			}
			states = append(states, word)
		}
		ways := func() string { return strconv.Itoa(random.Intn(n)) + ">" + strconv.Itoa(random.Intn(n)) }
		for range random.Intn(transitions) {
			words = append(words, string("abcd"[random.Intn(4)])+randomLabel(random)+":"+ways())
		}
		for range random.Intn(autos) {
			words = append(words, ways(), "7@"+ways())
		}
		random.Shuffle(len(words), func(i, j int) { words[i], words[j] = words[j], words[i] })
		c := of(strings.Join(states, " "), strings.Join(words, " "))
		if chart.Valid(c) {
			return c
		}
	}
}

// randomEvents returns up to MaxPath events, mostly such as a document takes, sometimes more than MaxPath.
func randomEvents(random *rand.Rand, c chart.Chart) (events []string) {
	for range random.Intn(api.MaxPath + 2) {
		l := []string{"a", "b", "c", "d"}
		random.Shuffle(len(l), func(i, j int) { l[i], l[j] = l[j], l[i] })
		at := slices.IndexFunc(l, func(event string) bool {
			_, err := taken(c, append(slices.Clone(events), event))
			return err == nil
		})
		if at < 0 || random.Intn(9) == 0 {
			at = 0
		}
		events = append(events, l[at])
	}
	return events
}

func TestRandomPath(t *testing.T) {
	random := rand.New(rand.NewSource(3))
	lengths := [api.MaxPath + 1]int{}
	for range 4000 {
		c := randomChart(random, 6, 20, 3)
		if random.Intn(9) == 0 {
			c = randomChart(random, 12, api.MaxTrans-3, 2)
		}
		events := randomEvents(random, c)
		checkTaken(t, c, events)
		if path, err := Path(c, events); err == nil {
			lengths[len(path)]++
		}
	}
	if slices.Min(lengths[:]) < 50 {
		t.Errorf("too few paths: %v", lengths)
	}
}

// performs reports whether users, one for each event, do it on a new machine, each in a session with one role active.
func performs(r *rights.Rights, c chart.Chart, events, users []string) bool {
	g, s := grants.New(), seats.New()
	p, _, err := paper.New(c, "letter", 0)
	if err != nil {
		return false
	}
	for i, event := range events {
		n, err := s.Open(r, users[i])
		trans := paper.Pick(c, p, event)
		if err != nil || trans < 0 || !activates(r, g, s, n, c.Trans[trans].Perm) {
			return false
		}
		p, _, err = paper.Fire(c, p, trans, users[i], r.Apart(), 0)
		if err != nil {
			return false
		}
	}
	return true
}

// activates makes the first role active by which a session may do something, and reports whether there is one.
func activates(r *rights.Rights, g *grants.Grants, s *seats.Seats, n int, perm string) bool {
	if s.May(r, n, perm) {
		return true
	}
	for _, role := range r.Order().Names() {
		if s.Activate(r, g, n, role) == nil {
			if s.May(r, n, perm) {
				return true
			}
			_ = s.Drop(r, n, role)
		}
	}
	return false
}

// Find answers a list if, and only if, users can perform the events; that list does, and none ahead of it (T7).
func TestUsersPerformWhatIsFound(t *testing.T) {
	random := rand.New(rand.NewSource(4))
	found, none := 0, 0
	for range 2000 {
		text := randomLaw(random, 4, 3)
		if strings.Contains(text, "role r1") {
			text += ";dsd 2 r0 r1"
		}
		l, r := rulesOf(t, text), law(t, text)
		c := randomChart(random, 4, 12, 2)
		events := randomEvents(random, c)
		path, err := Path(c, events)
		if err != nil {
			continue
		}
		users, ok := Find(r, c, path)
		want, can := first(l.users(), len(events), func(users []string) bool { return performs(r, c, events, users) })
		if ok != can || !slices.Equal(users, want) {
			t.Fatalf("%q, %+v: Find of %v (%v) is %q, %t, but users perform it: %q, %t", text, c, path, events, users, ok, want, can)
		}
		if ok && len(path) > 1 {
			found++
		}
		if !ok {
			none++
		}
	}
	if found < 100 || none < 100 {
		t.Errorf("too few: %d found, %d not", found, none)
	}
}
