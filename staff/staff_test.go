package staff

import (
	"reflect"
	"slices"
	"strconv"
	"strings"
	"testing"

	"imprimatur/api"
	"imprimatur/chart"
	"imprimatur/policy"
	"imprimatur/rights"
	"imprimatur/shape"
)

// of returns a chart: its states as in "p a1 h0" (p, a, h or d for Plain, All, Past or Deep, and the parent's index, none: the top).
// Its transitions are as in "0>1 go:2>0 go/write=draft:0>1 5@1>2": an Auto, an On with its event, one with a permission and a task, too, an After with its time.
// Where a word tells no states, as in "go/write=draft", the transition leads from 0 to 0.
// Beyond its lists is memory that would change the answers if it were read.
func of(states, transitions string) chart.Chart {
	var c chart.Chart
	for i, word := range strings.Fields(states) {
		parent := -1
		if len(word) > 1 {
			parent = number(word[1:])
		}
		c.Names = append(c.Names, "s"+strconv.Itoa(i))
		c.Shape.Kinds = append(c.Shape.Kinds, 1+strings.IndexByte("pahd", word[0]))
		c.Shape.Parents = append(c.Shape.Parents, parent)
	}
	for _, word := range strings.Fields(transitions) {
		if !strings.Contains(word, ">") {
			word += ":0>0"
		}
		c.Trans = append(c.Trans, transition(word))
	}
	return spread(c)
}

func transition(word string) chart.Trans {
	x := chart.Trans{Kind: api.Auto}
	if label, ways, ok := strings.Cut(word, ":"); ok {
		x.Kind, word = api.On, ways
		label, x.Task, _ = strings.Cut(label, "=")
		x.Event, x.Perm, _ = strings.Cut(label, "/")
	}
	if time, ways, ok := strings.Cut(word, "@"); ok {
		x.Kind, x.Time, word = api.After, number(time), ways
	}
	from, to, _ := strings.Cut(word, ">")
	x.From, x.To = number(from), number(to)
	return x
}

func number(word string) int {
	n, err := strconv.Atoi(word)
	if err != nil {
		panic(err)
	}
	return n
}

// spread returns a copy of a chart with memory beyond its lists.
func spread(c chart.Chart) chart.Chart {
	return chart.Chart{
		Names: beyond(c.Names, "beyond"),
		Shape: shape.Shape{Kinds: beyond(c.Shape.Kinds, api.Plain), Parents: beyond(c.Shape.Parents, -1)},
		Trans: beyond(c.Trans, chart.Trans{Kind: api.On, Event: "go"}),
	}
}

// beyond returns a copy of a list, with more behind its end.
func beyond[E any](l []E, more E) []E {
	return append(slices.Clone(l), more, more, more)[:len(l)]
}

// copied returns a copy of a list, with what is beyond it.
func copied[E any](l []E) []E {
	return slices.Clone(l[:cap(l)])
}

func fill[E any](l []E, with E) {
	l = l[:cap(l)]
	for i := range l {
		l[i] = with
	}
}

// law returns the rights of a text, whose lines are separated by semicolons.
func law(t *testing.T, text string) *rights.Rights {
	t.Helper()
	l, err := policy.Parse(strings.ReplaceAll(text, ";", "\n"))
	if err != nil {
		t.Fatalf("%q: %v", text, err)
	}
	r, err := rights.Compile(l)
	if err != nil {
		t.Fatalf("%q: %v", text, err)
	}
	return r
}

// whole returns all that rights tell of their roles, users and permissions.
func whole(r *rights.Rights) []any {
	if r == nil {
		return nil
	}
	l := []any{r.Order().Names(), r.Users(), r.Perms(), r.Static(), r.Dynamic(), r.Apart()}
	for _, user := range r.Users() {
		l = append(l, r.Has(user), r.Order().Down(r.Has(user)))
	}
	for _, perm := range r.Perms() {
		l = append(l, r.Gives(perm))
	}
	for _, role := range r.Order().Names() {
		loan, ok := r.Lends(role)
		l = append(l, loan, ok)
	}
	return l
}

// kept asks, when it is called behind a call, whether its arguments are as they were, the memory beyond their lists included (R4).
func kept(t *testing.T, r *rights.Rights, c chart.Chart, events []string, path []int) func() {
	t.Helper()
	all := func() []any {
		return []any{
			copied(c.Names), copied(c.Shape.Kinds), copied(c.Shape.Parents), copied(c.Trans),
			copied(events), copied(path), whole(r),
		}
	}
	before := all()
	return func() {
		t.Helper()
		if after := all(); !reflect.DeepEqual(before, after) {
			t.Errorf("%+v became %+v", before, after)
		}
	}
}

// checkPath asks Path for some events, separated by blanks, twice, and changes the first answer ahead of the second (R4).
func checkPath(t *testing.T, c chart.Chart, events string, want ...int) {
	t.Helper()
	l := beyond(strings.Fields(events), "go")
	defer kept(t, nil, c, l, nil)()
	for range 2 {
		path, err := Path(c, l)
		if err != nil || !slices.Equal(path, want) {
			t.Errorf("Path(%+v, %q) is %v, %v, not %v", c, l, path, err, want)
		}
		fill(path, -12345)
	}
}

// checkPathError asks for an error, which is one of package api's numbers, and for no list beside it (R3).
func checkPathError(t *testing.T, c chart.Chart, events []string, want error) {
	t.Helper()
	l := beyond(events, "go")
	defer kept(t, nil, c, l, nil)()
	for range 2 {
		if path, err := Path(c, l); err != want || len(path) != 0 {
			t.Errorf("Path(%+v, %q) is %v, %v, not %v", c, l, path, err, want)
		}
	}
}

func checkAble(t *testing.T, r *rights.Rights, user, perm string, want bool) {
	t.Helper()
	defer kept(t, r, chart.Chart{}, nil, nil)()
	for range 2 {
		if able := Able(r, user, perm); able != want {
			t.Errorf("Able(%q, %q) is %t", user, perm, able)
		}
	}
}

// checkFind asks Find twice, and changes the first answer ahead of the second (R4); the users are separated by blanks.
func checkFind(t *testing.T, r *rights.Rights, c chart.Chart, path []int, want string) {
	t.Helper()
	path = beyond(path, 0)
	defer kept(t, r, c, nil, path)()
	for range 2 {
		l, ok := Find(r, c, path)
		if !ok || !slices.Equal(l, strings.Fields(want)) {
			t.Errorf("Find(%+v, %v) is %q, %t, not %q", c.Trans, path, l, ok, want)
		}
		fill(l, "wiped")
	}
}

// checkFindNone asks for false, and for no list beside it (R3).
func checkFindNone(t *testing.T, r *rights.Rights, c chart.Chart, path []int) {
	t.Helper()
	path = beyond(path, 0)
	defer kept(t, r, c, nil, path)()
	for range 2 {
		if l, ok := Find(r, c, path); ok || len(l) != 0 {
			t.Errorf("Find(%+v, %v) is %q, %t", c.Trans, path, l, ok)
		}
	}
}

// checkWhole asks Find for all transitions of a chart of one state, in order; no users told: there are none to be found.
func checkWhole(t *testing.T, r *rights.Rights, transitions, want string) {
	t.Helper()
	c := of("p", transitions)
	path := make([]int, len(c.Trans))
	for i := range path {
		path[i] = i
	}
	if want == "" {
		checkFindNone(t, r, c, path)
		return
	}
	checkFind(t, r, c, path, want)
}
