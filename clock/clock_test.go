package clock

import (
	"reflect"
	"slices"
	"strconv"
	"strings"
	"testing"

	"imprimatur/api"
	"imprimatur/chart"
	"imprimatur/shape"
	"imprimatur/step"
)

// of returns a chart: its states as in "p a1 h0" (p, a, h or d for Plain, All, Past or Deep, and the parent's index, none: the top).
// Its transitions are as in "0>1 go:2>0 5@1>2": an Auto, an On with its event, an After with its time.
// Beyond its lists is memory that would change the answers if it were read.
func of(states, transitions string) chart.Chart {
	var c chart.Chart
	for i, word := range strings.Fields(states) {
		parent := -1
		if len(word) > 1 {
			parent = number(word[1:])
		}
		c.Names = append(c.Names, "s"+strconv.Itoa(i))
		c.Shape.Kinds = append(c.Shape.Kinds, 1+strings.IndexByte("pahd", word[0]))
		c.Shape.Parents = append(c.Shape.Parents, parent)
	}
	for _, word := range strings.Fields(transitions) {
		c.Trans = append(c.Trans, transition(word))
	}
	return spread(c)
}

func transition(word string) chart.Trans {
	x := chart.Trans{Kind: api.Auto}
	if event, ways, ok := strings.Cut(word, ":"); ok {
		x.Kind, x.Event, word = api.On, event, ways
	}
	if time, ways, ok := strings.Cut(word, "@"); ok {
		x.Kind, x.Time, word = api.After, number(time), ways
	}
	from, to, _ := strings.Cut(word, ">")
	x.From, x.To = number(from), number(to)
	return x
}

func number(word string) int {
	n, err := strconv.Atoi(word)
	if err != nil {
		panic(err)
	}
	return n
}

// spread returns a copy of a chart with memory beyond its lists.
func spread(c chart.Chart) chart.Chart {
	return chart.Chart{
		Names: beyond(c.Names, "s0"),
		Shape: shape.Shape{Kinds: beyond(c.Shape.Kinds, api.Plain), Parents: beyond(c.Shape.Parents, -1)},
		Trans: beyond(c.Trans, chart.Trans{Kind: api.After, Time: 1}),
	}
}

// beyond returns a copy of a list, with more behind its end.
func beyond[E any](l []E, more E) []E {
	return append(slices.Clone(l), more, more, more)[:len(l)]
}

// at returns where a document of a chart stands, as in "0@5 2@7": in 0 since 5, in 2 since 7.
func at(c chart.Chart, text string) step.Config {
	n := len(c.Shape.Kinds)
	x := step.Config{Past: beyond(make([]uint32, n), 3), Since: beyond(make([]int, n), 77)}
	for _, word := range strings.Fields(text) {
		state, since, _ := strings.Cut(word, "@")
		x.Set |= 1 << number(state)
		x.Since[number(state)] = number(since)
	}
	return x
}

// copied returns a copy of a list, with what is beyond it.
func copied[E any](l []E) []E {
	return slices.Clone(l[:cap(l)])
}

// kept asks, when it is called behind a call, whether its arguments are as they were, the memory beyond their lists included (R4).
func kept(t *testing.T, c chart.Chart, x step.Config, l []Due) func() {
	t.Helper()
	all := func() []any {
		return []any{copied(c.Names), copied(c.Shape.Kinds), copied(c.Shape.Parents), copied(c.Trans), x.Set, copied(x.Past), copied(x.Since), copied(l)}
	}
	before := all()
	return func() {
		t.Helper()
		if after := all(); !reflect.DeepEqual(before, after) {
			t.Errorf("%+v became %+v", before, after)
		}
	}
}

// wipe changes an answer, and what is beyond it.
func wipe(l []Due) {
	l = l[:cap(l)]
	for i := range l {
		l[i] = Due{-1, "wiped", -1}
	}
}

// checkOf asks Of twice, and changes the first answer ahead of the second (R4).
func checkOf(t *testing.T, c chart.Chart, x step.Config, doc string, want ...Due) {
	t.Helper()
	defer kept(t, c, x, nil)()
	for range 2 {
		l := Of(c, x, doc)
		if !slices.Equal(l, want) {
			t.Errorf("Of(%+v, %+v, %q) is %v, not %v", c, x, doc, l, want)
		}
		wipe(l)
	}
}

// checkSort hands a list over that has memory beyond its length, and one that has none.
func checkSort(t *testing.T, l []Due, want ...Due) {
	t.Helper()
	for _, given := range [][]Due{beyond(l, Due{-1 << 40, "", 0}), slices.Clip(slices.Clone(l))} {
		asked := kept(t, chart.Chart{}, step.Config{}, given)
		for range 2 {
			sorted := Sort(given...)
			if !slices.Equal(sorted, want) {
				t.Errorf("Sort(%+v) is %+v, not %+v", l, sorted, want)
			}
			wipe(sorted)
		}
		asked()
	}
}

// checkSortedAnyhow asks for a sorted list from each of the orders that it may be in.
func checkSortedAnyhow(t *testing.T, want ...Due) {
	t.Helper()
	l := slices.Clone(want)
	permute(l, 0, func() { checkSort(t, l, want...) })
}

// permute calls f with all orders of l behind the first n elements.
func permute(l []Due, n int, f func()) {
	if n == len(l) {
		f()
	}
	for i := n; i < len(l); i++ {
		l[n], l[i] = l[i], l[n]
		permute(l, n+1, f)
		l[n], l[i] = l[i], l[n]
	}
}

func checkNext(t *testing.T, l []Due, now int, want Due) {
	t.Helper()
	l = beyond(l, Due{-1 << 40, "", 0})
	defer kept(t, chart.Chart{}, step.Config{}, l)()
	for range 2 {
		if d, ok := Next(l, now); d != want || !ok {
			t.Errorf("Next(%v, %d) is %v, %v, not %v", l, now, d, ok, want)
		}
	}
}

// checkNoNext asks for false, and for the zero Due beside it (R3).
func checkNoNext(t *testing.T, l []Due, now int) {
	t.Helper()
	l = beyond(l, Due{-1 << 40, "", 0})
	defer kept(t, chart.Chart{}, step.Config{}, l)()
	if d, ok := Next(l, now); d != (Due{}) || ok {
		t.Errorf("Next(%v, %d) is %v, %v", l, now, d, ok)
	}
}
