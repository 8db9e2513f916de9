package step

import (
	"errors"
	"reflect"
	"slices"
	"strconv"
	"strings"
	"testing"

	"imprimatur/api"
	"imprimatur/chart"
	"imprimatur/shape"
)

// of returns a chart: its states as in "p a1 h0" (p, a, h or d for Plain, All, Past or Deep, and the parent's index, none: the top).
// Its transitions are as in "0>1 go:2>0 5@1>2": an Auto, an On with its event, an After with its time.
// Beyond its lists is memory that would change the answers if it were read.
func of(states, transitions string) chart.Chart {
	var c chart.Chart
	for i, word := range strings.Fields(states) {
		parent := -1
		if len(word) > 1 {
			parent = number(word[1:])
		}
		c.Names = append(c.Names, "s"+strconv.Itoa(i))
		c.Shape.Kinds = append(c.Shape.Kinds, 1+strings.IndexByte("pahd", word[0]))
		c.Shape.Parents = append(c.Shape.Parents, parent)
	}
	for _, word := range strings.Fields(transitions) {
		c.Trans = append(c.Trans, transition(word))
	}
	return spread(c)
}

func transition(word string) chart.Trans {
	x := chart.Trans{Kind: api.Auto}
	if event, ways, ok := strings.Cut(word, ":"); ok {
		x.Kind, x.Event, word = api.On, event, ways
	}
	if time, ways, ok := strings.Cut(word, "@"); ok {
		x.Kind, x.Time, word = api.After, number(time), ways
	}
	from, to, _ := strings.Cut(word, ">")
	x.From, x.To = number(from), number(to)
	return x
}

func number(word string) int {
	n, err := strconv.Atoi(word)
	if err != nil {
		panic(err)
	}
	return n
}

// spread returns a copy of a chart with memory beyond its lists.
func spread(c chart.Chart) chart.Chart {
	return chart.Chart{
		Names: beyond(c.Names, "s0"),
		Shape: shape.Shape{Kinds: beyond(c.Shape.Kinds, api.Plain), Parents: beyond(c.Shape.Parents, -1)},
		Trans: beyond(c.Trans, chart.Trans{Kind: api.Auto}),
	}
}

// beyond returns a copy of a list, with more behind its end.
func beyond[E any](l []E, more E) []E {
	return append(slices.Clone(l), more, more, more)[:len(l)]
}

// at returns where a document of a chart stands, as in "0@5 2@7 1:2,3": in 0 since 5, in 2 since 7; 1 was in 2 and 3 when it was left last.
// Beyond its lists is memory that would change the answers if it were read.
func at(c chart.Chart, text string) Config {
	n := len(c.Shape.Kinds)
	x := Config{Past: beyond(make([]uint32, n), 3), Since: beyond(make([]int, n), 77)}
	for _, word := range strings.Fields(text) {
		if state, since, ok := strings.Cut(word, "@"); ok {
			x.Set |= 1 << number(state)
			x.Since[number(state)] = number(since)
			continue
		}
		state, was, _ := strings.Cut(word, ":")
		for _, one := range strings.Split(was, ",") {
			x.Past[number(state)] |= 1 << number(one)
		}
	}
	return x
}

// document returns where a document stands that is in some states, each since its index and 100.
func document(c chart.Chart, states ...int) Config {
	x := at(c, "")
	for _, i := range states {
		x.Set |= 1 << i
		x.Since[i] = 100 + i
	}
	return x
}

// copied returns a copy of a list, with what is beyond it.
func copied[E any](l []E) []E {
	return slices.Clone(l[:cap(l)])
}

// kept asks, when it is called behind a call, whether a chart and a Config are as they were, the memory beyond their lists included (R4).
func kept(t *testing.T, c chart.Chart, x Config) func() {
	t.Helper()
	all := func() []any {
		return []any{copied(c.Names), copied(c.Shape.Kinds), copied(c.Shape.Parents), copied(c.Trans), x.Set, copied(x.Past), copied(x.Since)}
	}
	before := all()
	return func() {
		t.Helper()
		if after := all(); !reflect.DeepEqual(before, after) {
			t.Errorf("%+v became %+v", before, after)
		}
	}
}

// equal reports whether two Configs are the same; a list that is nil is equal to an empty one.
func equal(x, y Config) bool {
	return x.Set == y.Set && slices.Equal(x.Past, y.Past) && slices.Equal(x.Since, y.Since)
}

// wipe changes all lists of an answer, and what is beyond them.
func wipe(x Config, l []int) {
	x.Past, x.Since, l = x.Past[:cap(x.Past)], x.Since[:cap(x.Since)], l[:cap(l)]
	for i := range x.Past {
		x.Past[i] = 0xAAAAAAAA
	}
	for _, m := range [][]int{x.Since, l} {
		for i := range m {
			m[i] = -12345
		}
	}
}

// zero asks whether the results beside an error are zero values (R3).
func zero(x Config, l []int) bool {
	return equal(x, Config{}) && len(l) == 0
}

// checkEnabled asks Enabled twice, and changes the first answer ahead of the second (R4).
func checkEnabled(t *testing.T, c chart.Chart, x Config, kind int, event string, want ...int) {
	t.Helper()
	defer kept(t, c, x)()
	for range 2 {
		l := Enabled(c, x, kind, event)
		if !slices.Equal(l, want) {
			t.Errorf("Enabled(%+v, %b, %d, %q) is %v, not %v", c, x.Set, kind, event, l, want)
		}
		wipe(Config{}, l)
	}
}

func checkTake(t *testing.T, c chart.Chart, x Config, trans, now int, want Config) {
	t.Helper()
	defer kept(t, c, x)()
	for range 2 {
		y, err := Take(c, x, trans, now)
		if err != nil || !equal(y, want) {
			t.Errorf("Take(%+v, %+v, %d, %d) is %+v, %v, not %+v", c, x, trans, now, y, err, want)
		}
		wipe(y, nil)
	}
}

func checkTakeError(t *testing.T, c chart.Chart, x Config, trans int, want api.Errno) {
	t.Helper()
	defer kept(t, c, x)()
	if y, err := Take(c, x, trans, 9); !errors.Is(err, want) || !zero(y, nil) {
		t.Errorf("Take(%+v, %+v, %d) is %+v, %v, not %v", c, x, trans, y, err, want)
	}
}

func checkRun(t *testing.T, c chart.Chart, x Config, now int, want Config, taken ...int) {
	t.Helper()
	defer kept(t, c, x)()
	for range 2 {
		y, l, err := Run(c, x, now)
		if err != nil || !equal(y, want) || !slices.Equal(l, taken) {
			t.Errorf("Run(%+v, %+v, %d) is %+v, %v, %v, not %+v, %v", c, x, now, y, l, err, want, taken)
		}
		wipe(y, l)
	}
}

func checkRunError(t *testing.T, c chart.Chart, x Config) {
	t.Helper()
	defer kept(t, c, x)()
	if y, l, err := Run(c, x, 9); !errors.Is(err, api.ErrLoop) || !zero(y, l) {
		t.Errorf("Run(%+v, %+v) is %+v, %v, %v, not ErrLoop", c, x, y, l, err)
	}
}

func checkBegin(t *testing.T, c chart.Chart, now int, want Config, taken ...int) {
	t.Helper()
	defer kept(t, c, Config{})()
	for range 2 {
		y, l, err := Begin(c, now)
		if err != nil || !equal(y, want) || !slices.Equal(l, taken) {
			t.Errorf("Begin(%+v, %d) is %+v, %v, %v, not %+v, %v", c, now, y, l, err, want, taken)
		}
		wipe(y, l)
	}
}

func checkBeginError(t *testing.T, c chart.Chart, want api.Errno) {
	t.Helper()
	defer kept(t, c, Config{})()
	if y, l, err := Begin(c, 9); !errors.Is(err, want) || !zero(y, l) {
		t.Errorf("Begin(%+v) is %+v, %v, %v, not %v", c, y, l, err, want)
	}
}
