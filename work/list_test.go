package work

import (
	"math"
	"strconv"
	"strings"
	"testing"

	"imprimatur/api"
	"imprimatur/chart"
	"imprimatur/paper"
)

func TestListNone(t *testing.T) {
	c := of("p p", "go:0>1")
	x := roomOf(t, office, c, "ann clerk", "dan")
	for _, session := range []int{1, 2, 3, 0, -1} {
		x.checkList(session, nil, "")
		x.checkList(session, []paper.Paper{}, "")
		x.with(chart.Chart{}).checkList(session, nil, "")
		x.with(of("p", "")).checkList(session, []paper.Paper{paperIn(c, "letter", "0", "")}, "")
	}
}

func TestListOne(t *testing.T) {
	c := of("p p", "sign/sign=x:0>1 write/write=y:0>1 see:0>0 none/none:0>0 to:1>0 0>1 5@0>1")
	x := roomOf(t, office, c, "ann clerk", "bob head", "dan")
	l := []paper.Paper{paperIn(c, "letter", "0", "")}
	x.checkList(1, l, "letter:write letter:see")
	x.checkList(2, l, "letter:sign letter:write letter:see")
	x.checkList(3, l, "letter:see")
	x.checkList(4, l, "")
	l = []paper.Paper{paperIn(c, "letter", "0", "x=bob x=ann")}
	x.checkList(1, l, "letter:see")
	x.checkList(2, l, "letter:sign letter:see")
	l = []paper.Paper{paperIn(c, "letter", "1", "x=ann")}
	x.checkList(1, l, "letter:to")
	x.checkList(3, l, "letter:to")
}

// Several, in their order and not by name, each with its events in the order of the transitions.
func TestListOrder(t *testing.T) {
	c := of("p p p", "zoo:0>1 kite/write:1>0 ant:0>2 moth:1>2 zoo:1>1 ant:0>1")
	x := roomOf(t, office, c, "ann clerk", "dan")
	l := []paper.Paper{
		paperIn(c, "moth", "1", ""), paperIn(c, "zoo", "0", ""), paperIn(c, "ant", "1", ""), paperIn(c, "bee", "2", ""), paperIn(c, "kite", "0", ""),
	}
	x.checkList(1, l, "moth:kite moth:moth moth:zoo zoo:zoo zoo:ant ant:kite ant:moth ant:zoo kite:zoo kite:ant")
	x.checkList(2, l, "moth:moth moth:zoo zoo:zoo zoo:ant ant:moth ant:zoo kite:zoo kite:ant")
	x.checkList(1, l[1:2], "zoo:zoo zoo:ant")
	x.checkList(1, l[3:], "kite:zoo kite:ant")
	x.checkList(1, l[3:4], "")
}

// The same document twice is told twice, and so are two of one name, each by where it stands and what was done on it.
func TestListTwice(t *testing.T) {
	c := of("p p", "go=x:0>1 to=y:0>0 back:1>0")
	x := roomOf(t, office, c, "ann", "bob")
	p := paperIn(c, "letter", "0", "x=ann")
	x.checkList(1, []paper.Paper{p, p}, "letter:go letter:go")
	x.checkList(2, []paper.Paper{p, p}, "letter:go letter:to letter:go letter:to")
	q := paperIn(c, "letter", "1", "")
	x.checkList(1, []paper.Paper{p, q, p}, "letter:go letter:back letter:go")
	r := paperIn(c, "letter", "0", "y=ann y=bob")
	x.checkList(1, []paper.Paper{p, r}, "letter:go letter:to")
	x.checkList(2, []paper.Paper{r, p}, "letter:to letter:go letter:to")
}

// Documents of which nothing may be done, for each reason, between others.
func TestListNothing(t *testing.T) {
	c := of("p p p", "go/write=x:0>1 to:1>0 by/none:2>0")
	x := roomOf(t, office, c, "ann clerk", "dan")
	free, barred, stuck, lost := paperIn(c, "free", "0", ""), paperIn(c, "barred", "0", "y=ann"), paperIn(c, "stuck", "2", ""), paperIn(c, "lost", "", "")
	x.checkList(1, []paper.Paper{barred}, "")
	x.checkList(1, []paper.Paper{stuck, barred, lost}, "")
	x.checkList(1, []paper.Paper{stuck, free, barred, lost, free}, "free:go free:go")
	x.checkList(2, []paper.Paper{stuck, free, barred, lost, free}, "")
	x.checkList(2, []paper.Paper{stuck, paperIn(c, "open", "1", ""), {}}, "open:to")
}

func TestListNoSession(t *testing.T) {
	c := of("p", "go to/write by=x")
	x := roomOf(t, office, c, "ann clerk", "ann clerk", "bob head")
	x.close(2)
	l := []paper.Paper{paperIn(c, "letter", "0", ""), paperIn(c, "bill", "0", "")}
	for _, session := range append(nobody(), 2, 4) {
		x.checkList(session, l, "")
	}
	x.checkList(1, l, "letter:go letter:to letter:by bill:go bill:to bill:by")
	x.checkList(3, l, "letter:go letter:to letter:by bill:go bill:to bill:by")
	x.close(1)
	x.checkList(1, l, "")
	x.checkList(3, l[1:], "bill:go bill:to bill:by")
}

// An event is listed once for a document, and only if the transition that it takes may be fired.
func TestListPicked(t *testing.T) {
	x := roomOf(t, office, of("", ""), "ann clerk", "bob payer")
	for _, a := range []struct{ states, transitions, at, ann, bob string }{
		{"p", "go/write go/pay to go", "0", "letter:go letter:to", "letter:to"},
		{"p", "go/pay to go/write", "0", "letter:to", "letter:go letter:to"},
		{"p p0", "go/write:0>0 to:0>0 go/pay:1>1", "0 1", "letter:to", "letter:go letter:to"},
		{"p p0", "go/pay:0>0 to:0>0 go/write:1>1", "0 1", "letter:go letter:to", "letter:to"},
		{"a p0 p0", "in=x:2>2 go/write:1>1 to:0>0 go:2>2 in:1>1", "0 1 2", "letter:go letter:to", "letter:in letter:to"},
	} {
		c := of(a.states, a.transitions)
		l := []paper.Paper{paperIn(c, "letter", a.at, "y=ann")}
		x.with(c).checkList(1, l, a.ann)
		x.with(c).checkList(2, l, a.bob)
	}
}

// What is active, what is lent and what is over, from one call to the next.
func TestListNow(t *testing.T) {
	c := of("p", "go/write to/sign")
	l := []paper.Paper{paperIn(c, "letter", "0", ""), paperIn(c, "bill", "0", "")}
	x := roomOf(t, office, c, "dan", "dan")
	x.checkList(1, l, "")
	x.give("cat dan head 0 0 9")
	x.checkList(1, l, "")
	x.activate(1, "clerk")
	x.checkList(1, l, "letter:go bill:go")
	x.activate(1, "head")
	x.checkList(1, l, "letter:go letter:to bill:go bill:to")
	x.checkList(2, l, "")
	x.drop(1, "clerk")
	x.checkList(1, l[1:], "bill:go bill:to")
	x.g.Expire(9)
	x.s.Prune(x.r, x.g)
	x.checkList(1, l, "")
}

// Documents as they become: what is listed is fired, and what is left to be done is listed.
func TestListOfDocuments(t *testing.T) {
	c := of("p p p p", "draft/write=x:0>1 check/write=y:1>2 pass/sign=z:2>3 back/write:1>0 back/sign:2>1")
	x := roomOf(t, office, c, "ann clerk", "bob head", "ann clerk")
	p, _, err := paper.New(c, "letter", 1)
	if err != nil {
		t.Fatal(err)
	}
	for _, next := range []struct{ lists, user, event string }{
		{"letter:draft, letter:draft, letter:draft", "ann", "draft"},
		{"letter:back, letter:check letter:back, letter:back", "bob", "check"},
		{", letter:back, ", "bob", "back"},
		{"letter:back, letter:check letter:back, letter:back", "ann", "back"},
		{"letter:draft, , letter:draft", "ann", "draft"},
		{"letter:back, letter:check letter:back, letter:back", "bob", "check"},
	} {
		for i, want := range strings.Split(next.lists, ", ") {
			x.checkList(i+1, []paper.Paper{p}, want)
		}
		if p, _, err = paper.Fire(c, p, paper.Pick(c, p, next.event), next.user, x.r.Apart(), 2); err != nil {
			t.Fatal(next.event, err)
		}
	}
	// Bob checked it, so it is not he who passes it; cat may.
	x.checkList(2, []paper.Paper{p}, "letter:back")
	if n, err := x.s.Open(x.r, "cat"); n != 4 || err != nil {
		t.Fatal(n, err)
	}
	x.activate(4, "boss")
	x.checkList(4, []paper.Paper{p}, "letter:pass letter:back")
}

// As many documents and transitions as there may be, and more documents than an engine has.
func TestListMost(t *testing.T) {
	var transitions []string
	for i := range api.MaxTrans {
		label := "e" + strconv.Itoa(i)
		if i%2 == 1 {
			label += "/none"
		}
		transitions = append(transitions, label)
	}
	c := of("p", strings.Join(transitions, " "))
	x := roomOf(t, office, c, "ann")
	var l []paper.Paper
	var want []string
	for i := range 3 * api.MaxDocs {
		name := "d" + strconv.Itoa(99-i)
		l = append(l, paperIn(c, name, "0", ""))
		for j := 0; j < api.MaxTrans; j += 2 {
			want = append(want, name+":e"+strconv.Itoa(j))
		}
	}
	x.checkList(1, l, strings.Join(want, " "))
	x.checkList(2, l, "")
}

// What is no state leads nowhere, and harms nothing (R1, R8).
func TestListNoState(t *testing.T) {
	c := of("p p", "no:0>1 go:1>0")
	x := roomOf(t, office, c, "ann")
	for _, from := range []int{math.MinInt, -32, -1, 2, 31, 32, 64, math.MaxInt} {
		c.Trans[0].From = from
		p := paperIn(c, "letter", "1", "")
		p.At.Set = math.MaxUint32
		x.with(c).checkList(1, []paper.Paper{p, {}, p}, "letter:go letter:go")
	}
}
