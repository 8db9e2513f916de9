package paper

import (
	"math"
	"slices"
	"strings"
	"testing"

	"imprimatur/api"
	"imprimatur/chart"
	"imprimatur/step"
)

// by returns what Fire is asked for a transition and a user, at the time 9, with nothing apart.
func by(trans int, user string) firing {
	return firing{trans: trans, user: user, now: 9}
}

// but returns the same with tasks apart.
func (f firing) but(apart string) firing {
	f.apart = apart
	return f
}

func TestFireNoTransition(t *testing.T) {
	c := of("p p", "go:0>1 go/write:0>1")
	for _, trans := range []int{math.MinInt, math.MinInt32, -256, -2, -1, 2, 3, 4, 5, 47, 48, 256, 1 << 32, math.MaxInt} {
		checkFireError(t, c, paperAt(c, "0@1", ""), by(trans, "ann"), api.ErrArg)
	}
	checkFire(t, c, paperAt(c, "0@1", ""), by(0, "ann"), paperAt(c, "1@9", ""), 0)
	checkFire(t, c, paperAt(c, "0@1", ""), by(1, "ann"), paperAt(c, "1@9", "write=ann"), 1)
	for _, c := range []chart.Chart{{}, of("p p", "")} {
		for _, trans := range []int{-1, 0, 1} {
			checkFireError(t, c, paperAt(of("p p", ""), "0@1", ""), by(trans, "ann"), api.ErrArg)
		}
	}
}

// As many transitions as there may be: the last one is one.
func TestFireLastTransition(t *testing.T) {
	c := of("p p", "")
	for range api.MaxTrans {
		c.Trans = append(c.Trans, chart.Trans{Kind: api.On, Event: "go", From: 0, To: 1})
	}
	c = spread(c)
	for trans := range api.MaxTrans {
		checkFire(t, c, paperAt(c, "0@1", ""), by(trans, "ann"), paperAt(c, "1@9", ""), trans)
	}
	checkFireError(t, c, paperAt(c, "0@1", ""), by(api.MaxTrans, "ann"), api.ErrArg)
}

// An After and an Auto are none that a user fires.
func TestFireNoOn(t *testing.T) {
	c := of("p p p", "5@0>1 go:0>1 1>2")
	checkFireError(t, c, paperAt(c, "0@1", ""), by(0, "ann"), api.ErrArg)
	checkFireError(t, c, paperAt(c, "1@1", ""), by(2, "ann"), api.ErrArg)
	checkFire(t, c, paperAt(c, "0@1", ""), by(1, "ann"), paperAt(c, "2@9", ""), 1, 2)
	for _, kind := range []int{math.MinInt, -9, 0, api.State, 12, 9 + 256, math.MaxInt} {
		c.Trans[1].Kind = kind
		checkFireError(t, c, paperAt(c, "0@1", ""), by(1, "ann"), api.ErrArg)
	}
}

func TestFireNotThere(t *testing.T) {
	c := of("p p p1 p1 a p4 p4", "go:0>1 go:2>0 go:3>0 go:4>0 go:5>6 go/write:1>1")
	for _, doc := range []struct {
		stands string
		may    []int
	}{
		{"0@1", []int{0}},
		{"1@1 2@1", []int{1, 5}},
		{"1@1 3@1", []int{2, 5}},
		{"4@1 5@1 6@1", []int{3, 4}},
		// What a document was in when it was left is not where it is.
		{"0@1 1:2,3 4:5", []int{0}},
		{"", nil},
	} {
		for trans := range c.Trans {
			if !slices.Contains(doc.may, trans) {
				checkFireError(t, c, paperAt(c, doc.stands, ""), by(trans, "ann"), api.ErrState)
			} else if _, taken, err := Fire(c, paperAt(c, doc.stands, ""), trans, "ann", nil, 9); err != nil || !slices.Equal(taken, []int{trans}) {
				t.Errorf("in %q %d is taken as %v, %v", doc.stands, trans, taken, err)
			}
		}
	}
}

const duties = "write,check check,pay,send"

// tasks is a chart of one state, with a transition for each of the tasks write, check, pay, send and file, and one without a task.
const tasks = "go/write:0>0 go/check:0>0 go/pay:0>0 go/send:0>0 go/file:0>0 go:0>0"

// A task that is apart from one that the user did, from either side.
func TestFireDuty(t *testing.T) {
	c := of("p", tasks)
	for _, test := range []struct {
		done string
		not  []int
	}{
		{"write=ann", []int{1}},
		{"check=ann", []int{0, 2, 3}},
		{"pay=ann", []int{1, 3}},
		{"send=ann", []int{1, 2}},
		{"file=ann", nil},
		{"write=ann pay=ann", []int{1, 3}},
		{"file=ann write=ann file=ann", []int{1}},
		{"write=bob check=ann pay=bob", []int{0, 2, 3}},
		{"check=bob pay=bob write=ann send=bob", []int{1}},
		// What others did, and those who are called nearly the same, is no reason against.
		{"write=bob check=cat pay=bob send=dan", nil},
		{"write=an check=annn pay=Ann send=", nil},
		{"", nil},
	} {
		for trans, one := range c.Trans {
			p := paperAt(c, "0@1", test.done)
			if slices.Contains(test.not, trans) {
				checkFireError(t, c, p, by(trans, "ann").but(duties), api.ErrDuty)
				continue
			}
			want := test.done
			if one.Task != "" {
				want += " " + one.Task + "=ann"
			}
			checkFire(t, c, p, by(trans, "ann").but(duties), paperAt(c, "0@9", want), trans)
		}
	}
}

// Where a list stands, and how its tasks do, has no part in it; a list of a task alone, or of nothing, keeps none apart.
func TestFireDutyLists(t *testing.T) {
	c := of("p", tasks)
	p := paperAt(c, "0@1", "write=ann")
	want := paperAt(c, "0@9", "write=ann check=ann")
	for _, lists := range []string{"write,check", "check,write", "pay,write,send,check", "pay,send file,pay check,file,write", "check,check,write", "write write,check"} {
		checkFireError(t, c, p, by(1, "ann").but(lists), api.ErrDuty)
	}
	for _, lists := range []string{"", "write", "check", "write check", "check,check", "pay,write check,pay", "write,send check,pay", "write,checks", "writes,check", "Write,check", ",check write,"} {
		checkFire(t, c, p, by(1, "ann").but(lists), want, 1)
	}
	for _, lists := range [][][]string{nil, {}, {nil}, {{}, {"write"}, nil, {"check"}}} {
		if q, taken, err := Fire(c, p, 1, "ann", lists, 9); err != nil || !equal(q, want) || !slices.Equal(taken, []int{1}) {
			t.Errorf("with %q apart Fire is %+v, %v, %v", lists, q, taken, err)
		}
	}
	// Duties that nobody did anything of yet.
	checkFire(t, c, paperAt(c, "0@1", ""), by(1, "ann").but("write,check"), paperAt(c, "0@9", "check=ann"), 1)
}

// The same task may be done again; it is noted each time.
func TestFireAgain(t *testing.T) {
	c := of("p", tasks)
	p, done := paperAt(c, "0@1", ""), ""
	for range 5 {
		done += " write=ann"
		checkFire(t, c, p, by(0, "ann").but(duties), paperAt(c, "0@9", done), 0)
		p = paperAt(c, "0@9", done)
	}
	checkFireError(t, c, p, by(1, "ann").but(duties), api.ErrDuty)
	checkFire(t, c, p, by(1, "bob").but(duties), paperAt(c, "0@9", done+" check=bob"), 1)
	checkFire(t, c, paperAt(c, "0@9", done+" check=bob"), by(0, "ann").but(duties), paperAt(c, "0@9", done+" check=bob write=ann"), 0)
}

// Tasks of two documents are not apart.
func TestFireAnotherDocument(t *testing.T) {
	c := of("p", tasks)
	p, q := paperAt(c, "0@1", ""), paperAt(c, "0@1", "")
	q.Name = "bill"
	p, _, _ = Fire(c, p, 0, "ann", apart(duties), 9)
	want := paperAt(c, "0@9", "check=ann")
	want.Name = "bill"
	checkFire(t, c, q, by(1, "ann").but(duties), want, 1)
	checkFireError(t, c, p, by(1, "ann").but(duties), api.ErrDuty)
}

// A transition without a task is nobody's duty, whatever was done; nothing is noted.
func TestFireNoTask(t *testing.T) {
	c := of("p", tasks)
	for _, done := range []string{"", "write=ann", "write=ann check=bob pay=ann"} {
		checkFire(t, c, paperAt(c, "0@1", done), by(5, "ann").but(duties), paperAt(c, "0@9", done), 5)
	}
	// No task is none that a list could have.
	p := paperAt(c, "0@1", "write=ann")
	for _, lists := range []string{"write,", ",write", ",", ",write,check"} {
		checkFire(t, c, p, by(5, "ann").but(lists), paperAt(c, "0@9", "write=ann"), 5)
	}
}

// Done grows at its end; what was done, and by whom, stays.
func TestFireDone(t *testing.T) {
	c := of("p p", "go/write:0>1 go/check:1>0")
	checkFire(t, c, paperAt(c, "0@1", ""), by(0, "ann"), paperAt(c, "1@9", "write=ann"), 0)
	checkFire(t, c, paperAt(c, "1@1", "write=ann"), by(1, "bob"), paperAt(c, "0@9", "write=ann check=bob"), 1)
	checkFire(t, c, paperAt(c, "0@1", "write=bob check=bob write=ann"), by(0, "bob"), paperAt(c, "1@9", "write=bob check=bob write=ann write=bob"), 0)
	many := strings.Repeat("pay=cat send=dan ", 1000)
	checkFire(t, c, paperAt(c, "0@1", many), by(0, "ann").but("write,pay"), paperAt(c, "1@9", many+"write=ann"), 0)
	checkFireError(t, c, paperAt(c, "0@1", many), by(0, "cat").but("write,pay"), api.ErrDuty)
}

// Any text may be a user, the empty one too.
func TestFireUser(t *testing.T) {
	c := of("p", "go/write:0>0")
	for _, user := range []string{"", " ", "ANN", "\xff", strings.Repeat("x", 100)} {
		want := paperAt(c, "0@9", "")
		want.Done = []Done{{"write", user}}
		checkFire(t, c, paperAt(c, "0@1", ""), by(0, user).but("write,check"), want, 0)
		p := paperAt(c, "0@1", "")
		p.Done = []Done{{"check", user}}
		checkFireError(t, c, p, by(0, user).but("write,check"), api.ErrDuty)
	}
}

// Who may fire it is not asked here, nor what the event is.
func TestFirePermission(t *testing.T) {
	c := of("p p", "go/write:0>1")
	c.Trans[0].Perm = "may"
	checkFire(t, c, paperAt(c, "0@1", ""), by(0, "zed"), paperAt(c, "1@9", "write=zed"), 0)
}

// The transition comes first, those that go by themselves behind it, in their order; these are nobody's.
func TestFireTakes(t *testing.T) {
	c := of("p p p p p", "2>3 go/write:0>1 1>2 go/check:3>4 5@3>0 0>0")
	c.Trans = c.Trans[:5]
	checkFire(t, c, paperAt(c, "0@1", "pay=bob"), by(1, "ann"), paperAt(c, "3@9", "pay=bob write=ann"), 1, 2, 0)
	checkFire(t, c, paperAt(c, "3@1", ""), by(3, "ann"), paperAt(c, "4@9", "check=ann"), 3)
	// What an Auto stood ready for ahead of the transition is asked behind it.
	c = of("p p p", "0>2 go:0>1 1>2")
	checkFire(t, c, paperAt(c, "0@1", ""), by(1, "ann"), paperAt(c, "2@9", ""), 1, 2)
	// The innermost first; what is left is remembered; what stays keeps its time.
	c = of("p p0 p0 h0 p p2 p2", "go:1>2 0>4 5>6 go:4>3")
	checkFire(t, c, paperAt(c, "0@1 1@2", ""), by(0, "ann"), paperAt(c, "4@9 0:2,6", ""), 0, 2, 1)
	c = of("a p0 p0 p1 p1 p2 p2", "go:3>4 5>6")
	checkFire(t, c, paperAt(c, "0@1 1@2 2@3 3@4 5@5", ""), by(0, "ann"), paperAt(c, "0@1 1@2 2@3 4@9 6@9", ""), 0, 1)
	checkFire(t, c, paperAt(c, "0@1 1@2 2@3 3@4 6@5", ""), by(0, "ann"), paperAt(c, "0@1 1@2 2@3 4@9 6@5", ""), 0)
	// Into what was left last.
	c = of("p p p1 p1 h1 d1 p3 p3", "go:0>4 go:0>5 7>0")
	checkFire(t, c, paperAt(c, "0@1 1:3,6", ""), by(0, "ann"), paperAt(c, "1@9 3@9 6@9 1:3,6", ""), 0)
	checkFire(t, c, paperAt(c, "0@1 1:3,7", ""), by(1, "ann"), paperAt(c, "0@9 1:3,7", ""), 1, 2)
}

func TestFireLoop(t *testing.T) {
	for _, transitions := range []string{"go:0>1 1>1", "go:0>1 1>2 2>1", "go/write:0>1 1>0 0>1"} {
		c := of("p p p", transitions)
		checkFireError(t, c, paperAt(c, "0@1", ""), by(0, "ann"), api.ErrLoop)
	}
	// As many as may be and one more, beside the transition itself.
	for n := 2; n <= api.MaxStates; n++ {
		c := line(n)
		c.Trans[0].Kind, c.Trans[0].Event = api.On, "go"
		if n-2 > api.MaxMicro {
			checkFireError(t, c, paperAt(c, "0@1", ""), by(0, "ann"), api.ErrLoop)
			continue
		}
		want := paperAt(c, "", "")
		want.At.Set, want.At.Since[n-1] = 1<<(n-1), 9
		checkFire(t, c, paperAt(c, "0@1", ""), by(0, "ann"), want, upTo(n-1)...)
	}
}

// No time is wrong here.
func TestFireNow(t *testing.T) {
	c := of("p p p", "go/write:0>1 1>2")
	for _, now := range []int{math.MinInt, -api.MaxTime, -1, 0, 1, api.MaxTime, api.MaxTime + 1, math.MaxInt} {
		want := paperAt(c, "2@0", "write=ann")
		want.At.Since[2] = now
		checkFire(t, c, paperAt(c, "0@100", ""), firing{trans: 0, user: "ann", now: now}, want, 0, 1)
	}
}

// Two errors at a time, and more: the one that comes first is told. The document is in 0 alone, ann wrote it, and behind 2 there is no end.
func TestFireOrderOfErrors(t *testing.T) {
	for _, test := range []struct {
		word      string
		want, bob error
	}{
		{"5@0>0", api.ErrArg, api.ErrArg},
		{"go:1>0", api.ErrState, api.ErrState},
		{"go/check:0>0", api.ErrDuty, nil},
		{"go:0>2", api.ErrLoop, api.ErrLoop},
		{"5@1>0", api.ErrArg, api.ErrArg},
		{"0>2", api.ErrArg, api.ErrArg},
		{"5@0>2", api.ErrArg, api.ErrArg},
		{"1>2", api.ErrArg, api.ErrArg},
		{"go/check:1>0", api.ErrState, api.ErrState},
		{"go:1>2", api.ErrState, api.ErrState},
		{"go/check:0>2", api.ErrDuty, api.ErrLoop},
		{"go/check:1>2", api.ErrState, api.ErrState},
	} {
		c := of("p p p", test.word+" 2>2")
		p := paperAt(c, "0@1", "write=ann")
		checkFireError(t, c, p, by(0, "ann").but(duties), test.want)
		if test.bob != nil {
			checkFireError(t, c, p, by(0, "bob").but(duties), test.bob)
		} else {
			checkFire(t, c, p, by(0, "bob").but(duties), paperAt(c, "0@9", "write=ann check=bob"), 0)
		}
		// No such transition, whatever is wrong with those that there are.
		checkFireError(t, c, p, by(-1, "ann").but(duties), api.ErrArg)
		checkFireError(t, c, p, by(2, "ann").but(duties), api.ErrArg)
	}
	// One that is no On is none, even with a task, which no valid chart gives it.
	c := of("p p p", "5@0>0 5@1>2 0>0 2>2")
	for trans := range c.Trans {
		c.Trans[trans].Task = "check"
		checkFireError(t, c, paperAt(c, "0@1", "write=ann"), by(trans, "ann").but(duties), api.ErrArg)
	}
}

// What one answer is changed to changes no other one, nor the document that was handed in.
func TestFireApart(t *testing.T) {
	c := of("p p0 p0 h0 p", "go/write:1>2 go/check:0>4 go:4>3 2>1")
	c.Trans = c.Trans[:3]
	start := paperAt(c, "0@1 1@2", "")
	one, _, _ := Fire(c, start, 0, "ann", nil, 3)
	one, _, _ = Fire(c, one, 1, "bob", nil, 4)
	one, _, _ = Fire(c, one, 2, "bob", nil, 5)
	// Several from one: each has what was done ahead of it, and its own.
	first, taken, _ := Fire(c, one, 1, "ann", nil, 6)
	second, others, _ := Fire(c, one, 1, "bob", nil, 7)
	third, _, _ := Fire(c, one, 1, "cat", nil, 8)
	done := "write=ann check=bob"
	wipe(one, nil)
	if !equal(first, paperAt(c, "4@6 0:2", done+" check=ann")) || !equal(second, paperAt(c, "4@7 0:2", done+" check=bob")) || !equal(third, paperAt(c, "4@8 0:2", done+" check=cat")) {
		t.Errorf("answers share memory with what is handed in, or one another: %+v, %+v, %+v", first, second, third)
	}
	wipe(first, taken)
	wipe(third, nil)
	if !equal(second, paperAt(c, "4@7 0:2", done+" check=bob")) || !slices.Equal(others, []int{1}) {
		t.Errorf("answers share memory: %+v, %v", second, others)
	}
	if !equal(start, paperAt(c, "0@1 1@2", "")) {
		t.Errorf("the first became %+v", start)
	}
}

// What is too short in a document counts as 0, and states beyond those of the chart are none.
func TestFireOddDocument(t *testing.T) {
	c := of("p p p", "go/write:0>1")
	p := paperAt(c, "0@1", "")
	p.At.Past, p.At.Since = p.At.Past[:0], p.At.Since[:1]
	checkFire(t, c, p, by(0, "ann"), paperAt(c, "1@9", "write=ann"), 0)
	checkFire(t, c, Paper{At: step.Config{Set: 1}}, by(0, "ann"), Paper{At: paperAt(c, "1@9", "").At, Done: []Done{{"write", "ann"}}}, 0)
	for _, from := range []int{math.MinInt, -1, 3, 23, 31, 32, 64, math.MaxInt} {
		c.Trans[0].From = from
		p := paperAt(c, "", "check=ann")
		p.At.Set = math.MaxUint32
		checkFireError(t, c, p, by(0, "ann").but("write,check"), api.ErrState)
	}
}
