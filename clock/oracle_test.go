package clock

import (
	"math"
	"math/big"
	"math/rand"
	"slices"
	"testing"

	"imprimatur/api"
	"imprimatur/chart"
	"imprimatur/policy"
	"imprimatur/shape"
	"imprimatur/step"
)

// The chapter once more, in another way: each Due is put in behind those that are not behind it, sums have no bounds, and Next asks tick by tick.

// ahead reports whether a comes ahead of b.
func ahead(a, b Due) bool {
	if a.Time != b.Time {
		return a.Time < b.Time
	}
	for i := range min(len(a.Doc), len(b.Doc)) {
		if a.Doc[i] != b.Doc[i] {
			return a.Doc[i] < b.Doc[i]
		}
	}
	if len(a.Doc) != len(b.Doc) {
		return len(a.Doc) < len(b.Doc)
	}
	return a.Trans < b.Trans
}

func slowSort(l []Due) (sorted []Due) {
	for _, d := range l {
		place := 0
		for place < len(sorted) && !ahead(d, sorted[place]) {
			place++
		}
		sorted = slices.Insert(sorted, place, d)
	}
	return sorted
}

func slowOf(c chart.Chart, x step.Config, doc string) []Due {
	var l []Due
	for state, since := range x.Since {
		if x.Set&(1<<state) == 0 {
			continue
		}
		for trans, one := range c.Trans {
			sum := new(big.Int).Add(big.NewInt(int64(since)), big.NewInt(int64(one.Time)))
			if one.Kind == api.After && one.From == state && sum.Cmp(big.NewInt(api.MaxTime)) <= 0 && sum.IsInt64() {
				l = append(l, Due{int(sum.Int64()), doc, trans})
			}
		}
	}
	return slowSort(l)
}

// checkAll holds all calls for a list against the second reading.
func checkAll(t *testing.T, l []Due) {
	t.Helper()
	want := slowSort(l)
	checkSort(t, l, want...)
	if len(l) == 0 {
		checkNoNext(t, l, 5)
		return
	}
	first := want[0]
	for _, d := range l {
		for now := d.Time - 1; now <= d.Time+1; now++ {
			if now < first.Time {
				checkNoNext(t, l, now)
			} else {
				checkNext(t, l, now, first)
			}
		}
	}
}

// All lists of up to four of few.
func TestAllSmallLists(t *testing.T) {
	var all []Due
	for _, time := range []int{0, 3} {
		for _, doc := range []string{"", "a", "b"} {
			for _, trans := range []int{0, 1} {
				all = append(all, Due{time, doc, trans})
			}
		}
	}
	lists := 0
	var next func(l []Due)
	next = func(l []Due) {
		lists++
		checkAll(t, l)
		if len(l) == 4 || t.Failed() {
			return
		}
		for _, d := range all {
			next(append(l[:len(l):len(l)], d))
		}
	}
	next(nil)
	if lists != 1+12+144+1728+20736 {
		t.Errorf("%d lists", lists)
	}
}

func TestSomeLists(t *testing.T) {
	random := rand.New(rand.NewSource(1))
	equal, sameTime := 0, 0
	for range 800 {
		var l []Due
		for range random.Intn(60) {
			l = append(l, someDue(random))
		}
		checkAll(t, l)
		for i, d := range slowSort(l) {
			if before := slowSort(l)[max(i-1, 0)]; i > 0 && before == d {
				equal++
			} else if i > 0 && before.Time == d.Time {
				sameTime++
			}
		}
		if t.Failed() {
			return
		}
	}
	if equal < 500 || sameTime < 10000 {
		t.Errorf("too little is asked: %d equal ones, %d of the same time", equal, sameTime)
	}
}

// someDue returns one of which others are like to differ little.
func someDue(random *rand.Rand) Due {
	doc := make([]byte, random.Intn(3))
	for i := range doc {
		doc[i] = "aAb\x00\x80\xff"[random.Intn(6)]
	}
	return Due{random.Intn(9) - 4, string(doc), random.Intn(5) - 2}
}

// All charts of two states with up to three transitions of few, and all that a document may be said to be in.
func TestAllSmallCharts(t *testing.T) {
	var all []chart.Trans
	for from := range 2 {
		all = append(all, chart.Trans{Kind: api.On, From: from, Event: "go"}, chart.Trans{Kind: api.Auto, From: from})
		for time := 1; time <= 2; time++ {
			all = append(all, chart.Trans{Kind: api.After, From: from, Time: time})
		}
	}
	none, some, full := 0, 0, 0
	asked := func(c chart.Chart) {
		for i := range 36 {
			x := step.Config{Set: uint32(i % 4), Past: make([]uint32, 2), Since: []int{i / 4 % 3, i / 12}}
			want := slowOf(c, x, "a")
			checkOf(t, spread(c), step.Config{Set: x.Set, Past: x.Past, Since: beyond(x.Since, 77)}, "a", want...)
			switch len(want) {
			case 0:
				none++
			case len(c.Trans):
				full++
			default:
				some++
			}
		}
	}
	var next func(l []chart.Trans)
	next = func(l []chart.Trans) {
		asked(chart.Chart{Names: []string{"a", "b"}, Shape: shape.Shape{Kinds: []int{api.All, api.Plain}, Parents: []int{-1, 0}}, Trans: l})
		if len(l) == 3 || t.Failed() {
			return
		}
		for _, one := range all {
			next(append(l[:len(l):len(l)], one))
		}
	}
	next(nil)
	if none < 1000 || some < 1000 || full < 1000 {
		t.Errorf("too little is asked: %d, %d, %d", none, some, full)
	}
}

// someChart returns a chart of any transitions, and where a document may be said to stand in it; their numbers lie about the end of time, at the ends of all, or anywhere.
func someChart(random *rand.Rand) (chart.Chart, step.Config) {
	n := 1 + random.Intn(api.MaxStates)
	var c chart.Chart
	for range n {
		c.Names = append(c.Names, "s")
		c.Shape.Kinds, c.Shape.Parents = append(c.Shape.Kinds, api.Plain), append(c.Shape.Parents, -1)
	}
	for range random.Intn(api.MaxTrans + 1) {
		one := chart.Trans{Kind: api.On + random.Intn(3), From: random.Intn(n), To: random.Intn(n), Time: someTime(random)}
		c.Trans = append(c.Trans, one)
		if random.Intn(3) == 0 {
			one.Kind = api.After
			c.Trans = append(c.Trans, one)
		}
	}
	x := step.Config{Set: random.Uint32() & (1<<n - 1), Past: make([]uint32, n), Since: make([]int, n)}
	for i := range x.Since {
		x.Since[i] = someTime(random)
	}
	return spread(c), step.Config{Set: x.Set, Past: beyond(x.Past, 3), Since: beyond(x.Since, 77)}
}

func someTime(random *rand.Rand) int {
	switch random.Intn(12) {
	case 0:
		return api.MaxTime/2 - 4 + random.Intn(9)
	case 1:
		return api.MaxTime - random.Intn(9)
	case 2:
		return math.MaxInt - random.Intn(9)
	case 3:
		return math.MinInt + random.Intn(9)
	case 4:
		return int(random.Uint64())
	default:
		return random.Intn(9) - 1
	}
}

func TestSomeCharts(t *testing.T) {
	random := rand.New(rand.NewSource(2))
	due, long, beyond := 0, 0, 0
	for range 5000 {
		c, x := someChart(random)
		want := slowOf(c, x, "doc")
		checkOf(t, c, x, "doc", want...)
		due += len(want)
		if len(want) > 8 {
			long++
		}
		for _, i := range step.Enabled(c, x, api.After, "") {
			if !slices.ContainsFunc(want, func(d Due) bool { return d.Trans == i }) {
				beyond++
			}
		}
		if t.Failed() {
			return
		}
	}
	if due < 20000 || long < 500 || beyond < 5000 {
		t.Errorf("too little is asked: %d, %d, %d", due, long, beyond)
	}
}

// A document that takes what is due, time after time: it is due as long after its state is entered as its rule says, and exactly the Afters that are enabled are due at some time.
func TestAlongTheTime(t *testing.T) {
	l, err := policy.Parse("state a all\nstate b plain in a\nstate b1 plain in b\nstate b2 plain in b\nstate c plain in a\nstate c1 plain in c\nstate c2 plain in c\nstate back past in c\n" +
		"state d plain\nafter 3 from b1 to b2\nafter 4 from b2 to b1\nafter 5 from c1 to c2\nafter 7 from c2 to c1\nafter 40 from a to d\nafter 6 from d to back\non go from d to a\n")
	if err != nil {
		t.Fatal(err)
	}
	c, err := chart.Compile(l)
	if err != nil {
		t.Fatal(err)
	}
	x, _, err := step.Begin(c, 0)
	if err != nil {
		t.Fatal(err)
	}
	taken := 0
	for now := range 1000 {
		for {
			all := Of(c, x, "d")
			checkOf(t, c, x, "d", slowOf(c, x, "d")...)
			var numbers []int
			for _, d := range all {
				numbers = append(numbers, d.Trans)
			}
			enabled := step.Enabled(c, x, api.After, "")
			slices.Sort(enabled)
			slices.Sort(numbers)
			if !slices.Equal(numbers, enabled) {
				t.Fatal(now, all, enabled)
			}
			d, ok := Next(all, now)
			if !ok {
				break
			}
			if d.Time != now || d != all[0] {
				t.Fatal(now, d, all)
			}
			taken++
			if x, err = step.Take(c, x, d.Trans, now); err != nil {
				t.Fatal(err)
			}
		}
	}
	if taken < 300 {
		t.Errorf("%d are taken", taken)
	}
}

// FuzzClock holds lists and charts that numbers tell against the second reading.
func FuzzClock(f *testing.F) {
	for _, seed := range []int64{1, 2, 3, 99} {
		f.Add(seed, 5, "a", 3, -5, "\xff", -3)
	}
	f.Add(int64(0), math.MaxInt, "", math.MinInt, math.MinInt, "a\x00", 0)
	f.Fuzz(func(t *testing.T, seed int64, time1 int, doc1 string, trans1, time2 int, doc2 string, trans2 int) {
		random := rand.New(rand.NewSource(seed))
		c, x := someChart(random)
		x.Since[0] = time1
		if len(c.Trans) > 0 {
			c.Trans[0].Time = time2
		}
		all := slowOf(c, x, doc1)
		checkOf(t, c, x, doc1, all...)
		all = append(all, Due{time1, doc1, trans1}, Due{time2, doc2, trans2}, Due{time1, doc2, trans1}, Due{time1, doc1, trans2})
		random.Shuffle(len(all), func(i, j int) { all[i], all[j] = all[j], all[i] })
		checkSort(t, all, slowSort(all)...)
		first := slowSort(all)[0]
		for _, now := range []int{time1, time2, first.Time} {
			if now < first.Time {
				checkNoNext(t, all, now)
			} else {
				checkNext(t, all, now, first)
			}
		}
	})
}
