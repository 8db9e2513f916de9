package paper

import (
	"reflect"
	"slices"
	"strconv"
	"strings"
	"testing"

	"imprimatur/api"
	"imprimatur/chart"
	"imprimatur/shape"
	"imprimatur/step"
)

// of returns a chart: its states as in "p a1 h0" (p, a, h or d for Plain, All, Past or Deep, and the parent's index, none: the top).
// Its transitions are as in "0>1 go:2>0 go/write:0>1 5@1>2": an Auto, an On with its event, one with a task, too, an After with its time.
// Beyond its lists is memory that would change the answers if it were read.
func of(states, transitions string) chart.Chart {
	var c chart.Chart
	for i, word := range strings.Fields(states) {
		parent := -1
		if len(word) > 1 {
			parent = number(word[1:])
		}
		c.Names = append(c.Names, "s"+strconv.Itoa(i))
		c.Shape.Kinds = append(c.Shape.Kinds, 1+strings.IndexByte("pahd", word[0]))
		c.Shape.Parents = append(c.Shape.Parents, parent)
	}
	for _, word := range strings.Fields(transitions) {
		c.Trans = append(c.Trans, transition(word))
	}
	return spread(c)
}

func transition(word string) chart.Trans {
	x := chart.Trans{Kind: api.Auto}
	if label, ways, ok := strings.Cut(word, ":"); ok {
		x.Kind, word = api.On, ways
		x.Event, x.Task, _ = strings.Cut(label, "/")
	}
	if time, ways, ok := strings.Cut(word, "@"); ok {
		x.Kind, x.Time, word = api.After, number(time), ways
	}
	from, to, _ := strings.Cut(word, ">")
	x.From, x.To = number(from), number(to)
	return x
}

func number(word string) int {
	n, err := strconv.Atoi(word)
	if err != nil {
		panic(err)
	}
	return n
}

// spread returns a copy of a chart with memory beyond its lists.
func spread(c chart.Chart) chart.Chart {
	return chart.Chart{
		Names: beyond(c.Names, "beyond"),
		Shape: shape.Shape{Kinds: beyond(c.Shape.Kinds, api.Plain), Parents: beyond(c.Shape.Parents, -1)},
		Trans: beyond(c.Trans, chart.Trans{Kind: api.On, Event: "go"}),
	}
}

// beyond returns a copy of a list, with more behind its end.
func beyond[E any](l []E, more E) []E {
	return append(slices.Clone(l), more, more, more)[:len(l)]
}

// paperAt returns the document letter of a chart; where it stands as in "0@5 2@7 1:2,3" (in 0 since 5, in 2 since 7; 1 was in 2 and 3 when it was left last), what was done as in "write=ann check=bob".
// Beyond its lists is memory that would change the answers if it were read.
func paperAt(c chart.Chart, stands, done string) Paper {
	n := len(c.Shape.Kinds)
	p := Paper{Name: "letter"}
	p.At = step.Config{Past: make([]uint32, n), Since: make([]int, n)}
	for _, word := range strings.Fields(stands) {
		if state, since, ok := strings.Cut(word, "@"); ok {
			p.At.Set |= 1 << number(state)
			p.At.Since[number(state)] = number(since)
			continue
		}
		state, was, _ := strings.Cut(word, ":")
		for _, one := range strings.Split(was, ",") {
			p.At.Past[number(state)] |= 1 << number(one)
		}
	}
	for _, word := range strings.Fields(done) {
		task, user, _ := strings.Cut(word, "=")
		p.Done = append(p.Done, Done{task, user})
	}
	return roomy(p)
}

// roomy returns a copy of a document with memory beyond its lists.
func roomy(p Paper) Paper {
	p.At.Past, p.At.Since, p.Done = beyond(p.At.Past, 3), beyond(p.At.Since, 77), beyond(p.Done, Done{"beyond", "ann"})
	return p
}

// apart returns lists of tasks, as in "write,check check,pay", with memory beyond that would change the answers if it were read.
func apart(text string) [][]string {
	var l [][]string
	for _, word := range strings.Fields(text) {
		l = append(l, beyond(strings.Split(word, ","), "beyond"))
	}
	return beyond(l, []string{"write", "check", "pay"})
}

// copied returns a copy of a list, with what is beyond it.
func copied[E any](l []E) []E {
	return slices.Clone(l[:cap(l)])
}

// kept asks, when it is called behind a call, whether its arguments are as they were, the memory beyond their lists included (R4).
func kept(t *testing.T, c chart.Chart, p Paper, apart [][]string) func() {
	t.Helper()
	all := func() []any {
		lists := copied(apart)
		for i := range lists {
			lists[i] = copied(lists[i])
		}
		return []any{
			copied(c.Names), copied(c.Shape.Kinds), copied(c.Shape.Parents), copied(c.Trans),
			p.Name, p.At.Set, copied(p.At.Past), copied(p.At.Since), copied(p.Done), lists,
		}
	}
	before := all()
	return func() {
		t.Helper()
		if after := all(); !reflect.DeepEqual(before, after) {
			t.Errorf("%+v became %+v", before, after)
		}
	}
}

// equal reports whether two documents are the same; a list that is nil is equal to an empty one.
func equal(p, q Paper) bool {
	return p.Name == q.Name && p.At.Set == q.At.Set && slices.Equal(p.At.Past, q.At.Past) && slices.Equal(p.At.Since, q.At.Since) && slices.Equal(p.Done, q.Done)
}

// wipe changes all lists of an answer, and what is beyond them.
func wipe(p Paper, l []int) {
	fill(p.At.Past, 0xAAAAAAAA)
	fill(p.At.Since, -12345)
	fill(p.Done, Done{"wiped", "wiped"})
	fill(l, -12345)
}

func fill[E any](l []E, with E) {
	l = l[:cap(l)]
	for i := range l {
		l[i] = with
	}
}

// call is a call that makes a document, and what it is called when something is wrong with it.
type call struct {
	name string
	args []any
	made func() (Paper, []int, error)
}

func (x call) String() string {
	words := []string{}
	for _, arg := range x.args {
		switch v := arg.(type) {
		case string:
			words = append(words, strconv.Quote(v))
		case int:
			words = append(words, strconv.Itoa(v))
		}
	}
	return x.name + "(" + strings.Join(words, ", ") + ")"
}

// checkMade makes the call twice, and changes the first answer ahead of the second (R4).
func (x call) checkMade(t *testing.T, want Paper, taken []int) {
	t.Helper()
	for range 2 {
		p, l, err := x.made()
		if err != nil || !equal(p, want) || !slices.Equal(l, taken) {
			t.Errorf("%v is %+v, %v, %v, not %+v, %v", x, p, l, err, want, taken)
		}
		wipe(p, l)
	}
}

// checkRefused asks for an error, which is one of package api's numbers, and for zero values beside it (R3).
func (x call) checkRefused(t *testing.T, want error) {
	t.Helper()
	if p, l, err := x.made(); err != want || !equal(p, Paper{}) || len(l) != 0 {
		t.Errorf("%v is %+v, %v, %v, not %v", x, p, l, err, want)
	}
}

func callNew(c chart.Chart, name string, now int) call {
	return call{"New", []any{name, now}, func() (Paper, []int, error) { return New(c, name, now) }}
}

func checkNew(t *testing.T, c chart.Chart, name string, now int, want Paper, taken ...int) {
	t.Helper()
	defer kept(t, c, Paper{}, nil)()
	want.Name = name
	callNew(c, name, now).checkMade(t, want, taken)
}

func checkNewError(t *testing.T, c chart.Chart, name string, now int, want error) {
	t.Helper()
	defer kept(t, c, Paper{}, nil)()
	callNew(c, name, now).checkRefused(t, want)
}

func checkPick(t *testing.T, c chart.Chart, p Paper, event string, want int) {
	t.Helper()
	defer kept(t, c, p, nil)()
	for range 2 {
		if trans := Pick(c, p, event); trans != want {
			t.Errorf("Pick(%+v, %+v, %q) is %d, not %d", c, p, event, trans, want)
		}
	}
}

// firing is what Fire is asked beside the chart and the document; apart is as of the function apart.
type firing struct {
	trans int
	user  string
	apart string
	now   int
}

func (f firing) call(c chart.Chart, p Paper, apart [][]string) call {
	return call{"Fire", []any{f.trans, f.user, f.apart, f.now}, func() (Paper, []int, error) { return Fire(c, p, f.trans, f.user, apart, f.now) }}
}

func checkFire(t *testing.T, c chart.Chart, p Paper, f firing, want Paper, taken ...int) {
	t.Helper()
	sets := apart(f.apart)
	defer kept(t, c, p, sets)()
	f.call(c, p, sets).checkMade(t, want, taken)
}

func checkFireError(t *testing.T, c chart.Chart, p Paper, f firing, want error) {
	t.Helper()
	sets := apart(f.apart)
	defer kept(t, c, p, sets)()
	f.call(c, p, sets).checkRefused(t, want)
}

func callLate(c chart.Chart, p Paper, trans, now int) call {
	return call{"Late", []any{trans, now}, func() (Paper, []int, error) { return Late(c, p, trans, now) }}
}

func checkLate(t *testing.T, c chart.Chart, p Paper, trans, now int, want Paper, taken ...int) {
	t.Helper()
	defer kept(t, c, p, nil)()
	callLate(c, p, trans, now).checkMade(t, want, taken)
}

func checkLateError(t *testing.T, c chart.Chart, p Paper, trans, now int, want error) {
	t.Helper()
	defer kept(t, c, p, nil)()
	callLate(c, p, trans, now).checkRefused(t, want)
}

// checkTasks asks Tasks twice, and changes the first answer ahead of the second (R4).
func checkTasks(t *testing.T, p Paper, user string, want ...string) {
	t.Helper()
	defer kept(t, chart.Chart{}, p, nil)()
	for range 2 {
		l := Tasks(p, user)
		if !slices.Equal(l, want) {
			t.Errorf("Tasks(%+v, %q) is %q, not %q", p, user, l, want)
		}
		fill(l, "wiped")
	}
}

// checkStates asks States twice, and changes the first answer ahead of the second (R4).
func checkStates(t *testing.T, c chart.Chart, p Paper, want ...string) {
	t.Helper()
	defer kept(t, c, p, nil)()
	for range 2 {
		l := States(c, p)
		if !slices.Equal(l, want) {
			t.Errorf("States(%+v, %b) is %q, not %q", c.Names, p.At.Set, l, want)
		}
		fill(l, "wiped")
	}
}
