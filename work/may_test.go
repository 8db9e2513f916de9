package work

import (
	"errors"
	"math"
	"strings"
	"testing"

	"imprimatur/api"
	"imprimatur/chart"
	"imprimatur/paper"
)

// office has boss above head above clerk, and payer by itself. Nobody has a role by the rule but ann (clerk), bob (head, payer) and cat (boss).
// What is no permission here has the name of something else, or nearly that of one.
const office = "role boss > head;role head > clerk;role clerk;role payer;user ann clerk;user bob head payer;user cat boss;user dan;" +
	"perm write clerk;perm sign head;perm rule boss;perm pay payer;perm any clerk payer;perm none;perm clerk payer;perm ann payer;" +
	"exclusive x y;exclusive y z;lend boss 2 99;lend head 2 99;lend clerk 2 99;lend payer 2 99"

// nobody is numbers that no session has where there are nine at most.
func nobody() []int {
	return []int{0, -1, -2, 10, 99, 1 << 32, 1<<32 + 1, -1 << 32, math.MinInt, math.MaxInt}
}

func TestMay(t *testing.T) {
	c := of("p p", "go/write=x:0>1 to/sign:0>1 by=y:1>0 on:0>0")
	x := roomOf(t, office, c, "ann clerk", "bob head", "dan")
	p := paperIn(c, "letter", "0", "")
	x.checkAll(p, "go", nil, nil, api.ErrDenied)
	x.checkAll(p, "to", api.ErrDenied, nil, api.ErrDenied)
	x.checkAll(p, "by", api.ErrState, api.ErrState, api.ErrState)
	x.checkAll(p, "on", nil, nil, nil)
	p = paperIn(c, "letter", "1", "x=ann")
	x.checkAll(p, "by", api.ErrDuty, nil, nil)
	x.checkAll(p, "go", api.ErrState, api.ErrState, api.ErrState)
}

// A session that there is not may nothing, whatever else is wrong.
func TestMayNoSession(t *testing.T) {
	c := of("p p", "go:0>1 write/write=x:0>1 never/none:0>1 to:1>0")
	x := roomOf(t, office, c, "ann clerk", "ann clerk", "bob head payer")
	x.close(2)
	for _, p := range []paper.Paper{paperIn(c, "letter", "0", ""), paperIn(c, "letter", "0", "y=ann y=bob"), {}} {
		for _, session := range append(nobody(), 2, 4) {
			for _, event := range []string{"go", "write", "never", "to", "nothing", ""} {
				x.checkMay(session, p, event, api.ErrNone)
				x.with(chart.Chart{}).checkMay(session, p, event, api.ErrNone)
			}
		}
	}
	// There are none at all, and rights that name nobody.
	none := roomOf(t, "", c)
	for _, session := range append(nobody(), 1, 2) {
		none.checkMay(session, paperIn(c, "letter", "0", ""), "go", api.ErrNone)
		none.checkMay(session, paperIn(c, "letter", "0", ""), "to", api.ErrNone)
	}
	// The number of one that was closed is no other's.
	x.close(3)
	if n, err := x.s.Open(x.r, "ann"); n != 4 || err != nil {
		t.Fatal(n, err)
	}
	p := paperIn(c, "letter", "0", "")
	x.checkAll(p, "go", nil, api.ErrNone, api.ErrNone, nil)
	x.checkAll(p, "write", nil, api.ErrNone, api.ErrNone, api.ErrDenied)
}

// An event that nothing answers is told as such, also to those who could do nothing.
func TestMayNoTransition(t *testing.T) {
	c := of("p p", "go:0>1 other/none=x:1>0 both:0>1 both:1>0 sign/sign=x:0>1 0>1 5@0>1")
	x := roomOf(t, office, c, "ann", "bob head", "cat boss", "dan")
	for _, done := range []string{"", "y=ann y=bob y=cat y=dan"} {
		p := paperIn(c, "letter", "0", done)
		for _, event := range []string{"other", "nothing", "", " ", "g", "goo", "og", "Go", "go ", " go", "go\x00", "write", "ann", "letter", "s0", "\xff", strings.Repeat("go", 1000)} {
			x.checkAll(p, event, api.ErrState, api.ErrState, api.ErrState, api.ErrState)
		}
		x.checkAll(p, "both", nil, nil, nil, nil)
		p = paperIn(c, "letter", "1", done)
		for _, event := range []string{"go", "sign", "nothing"} {
			x.checkAll(p, event, api.ErrState, api.ErrState, api.ErrState, api.ErrState)
		}
		p = paperIn(c, "letter", "", done)
		x.checkAll(p, "both", api.ErrState, api.ErrState, api.ErrState, api.ErrState)
	}
	for _, transitions := range []string{"", "0>1", "5@0>1", "0>1 5@0>1"} {
		c := of("p p", transitions)
		x.with(c).checkAll(paperIn(c, "letter", "0", ""), "go", api.ErrState, api.ErrState)
		x.with(c).checkAll(paperIn(c, "letter", "0", ""), "", api.ErrState, api.ErrState)
	}
	x.with(chart.Chart{}).checkAll(paper.Paper{}, "go", api.ErrState, api.ErrState)
}

// The active roles give a permission: that of the rule, and those above it, but none below.
func TestMayPerm(t *testing.T) {
	const no = api.ErrDenied
	c := of("p", "write/write sign/sign rule/rule pay/pay any/any none/none no/nothing clerk/clerk ann/ann boss/boss")
	x := roomOf(t, office, c, "cat boss", "cat head", "cat clerk", "bob payer", "bob payer head", "bob clerk payer", "cat", "dan", "bob head clerk")
	for event, want := range map[string][]error{
		"write": {nil, nil, nil, no, nil, nil, no, no, nil},
		"sign":  {nil, nil, no, no, nil, no, no, no, nil},
		"rule":  {nil, no, no, no, no, no, no, no, no},
		"pay":   {no, no, no, nil, nil, nil, no, no, no},
		"any":   {nil, nil, nil, nil, nil, nil, no, no, nil},
		"clerk": {no, no, no, nil, nil, nil, no, no, no},
		"ann":   {no, no, no, nil, nil, nil, no, no, no},
		"none":  {no, no, no, no, no, no, no, no, no},
		"no":    {no, no, no, no, no, no, no, no, no},
		"boss":  {no, no, no, no, no, no, no, no, no},
	} {
		x.checkAll(paperIn(c, "letter", "0", ""), event, want...)
	}
}

// Not what a user could make active counts, but what is active, now and in this session.
func TestMayActive(t *testing.T) {
	c := of("p", "go/write")
	p := paperIn(c, "letter", "0", "")
	x := roomOf(t, office, c, "ann", "ann", "bob", "cat clerk")
	x.checkAll(p, "go", api.ErrDenied, api.ErrDenied, api.ErrDenied, nil)
	x.activate(2, "clerk")
	x.checkAll(p, "go", api.ErrDenied, nil, api.ErrDenied, nil)
	x.activate(3, "payer")
	x.checkMay(3, p, "go", api.ErrDenied)
	x.activate(3, "head")
	x.activate(3, "clerk")
	x.checkAll(p, "go", api.ErrDenied, nil, nil, nil)
	x.drop(3, "head")
	x.drop(4, "clerk")
	x.checkAll(p, "go", api.ErrDenied, nil, nil, api.ErrDenied)
	x.drop(3, "clerk")
	x.checkAll(p, "go", api.ErrDenied, nil, api.ErrDenied, api.ErrDenied)
}

// What a grant delegates, and what is below it, gives as long as it is active.
func TestMayByGrant(t *testing.T) {
	c := of("p", "go/write to/sign")
	p := paperIn(c, "letter", "0", "")
	x := roomOf(t, office, c, "dan", "dan", "ann")
	x.give("bob dan head 0 0 9")
	x.give("dan ann clerk 1 0 9")
	x.checkAll(p, "go", api.ErrDenied, api.ErrDenied, api.ErrDenied)
	x.activate(1, "head")
	x.activate(2, "clerk")
	x.checkAll(p, "go", nil, nil, api.ErrDenied)
	x.checkAll(p, "to", nil, api.ErrDenied, api.ErrDenied)
	x.activate(3, "clerk")
	x.g.Expire(9)
	// What is over gives until it is pruned; that is for those to do by whom it ends.
	x.checkAll(p, "go", nil, nil, nil)
	x.s.Prune(x.r, x.g)
	x.checkAll(p, "go", api.ErrDenied, api.ErrDenied, nil)
	x.checkAll(p, "to", api.ErrDenied, api.ErrDenied, api.ErrDenied)
}

// No permission asked for: anybody's who has a session.
func TestMayEmptyPerm(t *testing.T) {
	c := of("p", "go to=x")
	p := paperIn(c, "letter", "0", "y=bob")
	x := roomOf(t, office, c, "ann", "bob", "dan", "cat boss")
	x.checkAll(p, "go", nil, nil, nil, nil)
	x.checkAll(p, "to", nil, api.ErrDuty, nil, nil)
	x.checkMay(5, p, "go", api.ErrNone)
	bare := roomOf(t, "user ann", c, "ann")
	bare.checkMay(1, p, "go", nil)
}

// A task that is apart from one that the session's user did on this document.
func TestMayDuty(t *testing.T) {
	c := of("p", "x/write=x y/write=y z/write=z w/write=w no/write")
	x := roomOf(t, office, c, "ann clerk", "bob clerk")
	for done, want := range map[string]map[string][]error{
		// Nobody did anything.
		"": {"x": {nil, nil}, "y": {nil, nil}, "z": {nil, nil}},
		// Another user did it: that bars nobody else.
		"x=bob": {"x": {nil, nil}, "y": {nil, api.ErrDuty}, "z": {nil, nil}, "w": {nil, nil}, "no": {nil, nil}},
		// The same task again, one that is apart, one that is not.
		"x=ann": {"x": {nil, nil}, "y": {api.ErrDuty, nil}, "z": {nil, nil}, "w": {nil, nil}, "no": {nil, nil}},
		"y=ann": {"x": {api.ErrDuty, nil}, "y": {nil, nil}, "z": {api.ErrDuty, nil}, "w": {nil, nil}, "no": {nil, nil}},
		"z=ann": {"x": {nil, nil}, "y": {api.ErrDuty, nil}, "z": {nil, nil}, "w": {nil, nil}},
		// Of two users each their own.
		"x=ann y=bob":             {"x": {nil, api.ErrDuty}, "y": {api.ErrDuty, nil}, "z": {nil, api.ErrDuty}},
		"w=ann w=bob z=bob x=ann": {"x": {nil, nil}, "y": {api.ErrDuty, api.ErrDuty}, "z": {nil, nil}, "w": {nil, nil}},
		// Of many only the first, or only the last, is apart.
		"y=ann w=ann w=ann": {"x": {api.ErrDuty, nil}, "w": {nil, nil}},
		"w=ann w=ann y=ann": {"x": {api.ErrDuty, nil}, "z": {api.ErrDuty, nil}},
		// Both were done already: each bars the other.
		"x=ann y=ann": {"x": {api.ErrDuty, nil}, "y": {api.ErrDuty, nil}, "no": {nil, nil}},
		// Users who are not there, and what only looks like a task or a user.
		"x=ANN x=an x=anne x=clerk x=": {"y": {nil, nil}},
		"write=ann clerk=ann no=ann":   {"x": {nil, nil}, "y": {nil, nil}, "no": {nil, nil}},
	} {
		p := paperIn(c, "letter", "0", done)
		for event, errs := range want {
			x.checkAll(p, event, errs...)
		}
	}
}

// On another document it is another matter.
func TestMayDutyOtherDocument(t *testing.T) {
	c := of("p", "x=x y=y")
	x := roomOf(t, office, c, "ann", "bob")
	letter, bill := paperIn(c, "letter", "0", "x=ann"), paperIn(c, "bill", "0", "y=bob")
	x.checkAll(letter, "y", api.ErrDuty, nil)
	x.checkAll(letter, "x", nil, nil)
	x.checkAll(bill, "x", nil, api.ErrDuty)
	x.checkAll(bill, "y", nil, nil)
	// What is done counts, whatever the document is called.
	letter.Name = "bill"
	x.checkAll(letter, "y", api.ErrDuty, nil)
	letter.Name = ""
	x.checkAll(letter, "y", api.ErrDuty, nil)
}

// What a user did in one session counts in the user's others, also where that one is closed.
func TestMayDutyOtherSession(t *testing.T) {
	c := of("p p", "draft/write=x:0>1 check/write=y:1>0")
	x := roomOf(t, office, c, "ann clerk", "ann clerk", "bob clerk")
	p := paperIn(c, "letter", "0", "")
	x.checkAll(p, "draft", nil, nil, nil)
	p, _, err := paper.Fire(c, p, paper.Pick(c, p, "draft"), "ann", x.r.Apart(), 1)
	if err != nil {
		t.Fatal(err)
	}
	x.checkAll(p, "check", api.ErrDuty, api.ErrDuty, nil)
	x.close(1)
	x.checkAll(p, "check", api.ErrNone, api.ErrDuty, nil)
	if n, err := x.s.Open(x.r, "ann"); n != 4 || err != nil {
		t.Fatal(n, err)
	}
	x.checkAll(p, "check", api.ErrNone, api.ErrDuty, nil, api.ErrDenied)
	x.activate(4, "clerk")
	x.checkMay(4, p, "check", api.ErrDuty)
}

// A transition without a task is apart from nothing, and where nothing is apart nobody is barred.
func TestMayNoDuty(t *testing.T) {
	c := of("p", "go/write x/write=x")
	done := "x=ann y=ann z=ann w=ann =ann go=ann"
	x := roomOf(t, office, c, "ann clerk")
	x.checkMay(1, paperIn(c, "letter", "0", done), "go", nil)
	x.checkMay(1, paperIn(c, "letter", "0", done), "x", api.ErrDuty)
	free := roomOf(t, "role clerk;user ann clerk;perm write clerk", c, "ann clerk")
	free.checkMay(1, paperIn(c, "letter", "0", done), "go", nil)
	free.checkMay(1, paperIn(c, "letter", "0", done), "x", nil)
	// Roles that may not be active together have no part in it.
	roles := roomOf(t, "role x;role y;user ann x y;perm write x;dsd 2 x y;ssd 2 x write;role write", c, "ann x")
	roles.checkMay(1, paperIn(c, "letter", "0", done), "x", nil)
}

// Longer lists, and several of one task.
func TestMayDutyLists(t *testing.T) {
	c := of("p", "a=a b=b c=c d=d e=e")
	x := roomOf(t, "user ann;exclusive a b c;exclusive d c;exclusive e f;exclusive b a", c, "ann")
	for done, want := range map[string]string{
		"a=ann":       "b c",
		"b=ann":       "a c",
		"c=ann":       "a b d",
		"d=ann":       "c",
		"e=ann":       "",
		"f=ann":       "e",
		"a=ann f=ann": "b c e",
		"d=ann b=ann": "a c",
	} {
		for _, event := range strings.Fields("a b c d e") {
			var err error
			if strings.Contains(want, event) {
				err = api.ErrDuty
			}
			x.checkMay(1, paperIn(c, "letter", "0", done), event, err)
		}
	}
}

// All ways in which the four errors may come together: the first is told.
func TestMayOrderOfErrors(t *testing.T) {
	for ways := range 16 {
		noSession, noState, denied, duty := ways&1 != 0, ways&2 != 0, ways&4 != 0, ways&8 != 0
		session, states, roles, done := 1, "0", "ann clerk", ""
		var want error
		// From the last of the order to the first.
		if duty {
			done, want = "y=ann", api.ErrDuty
		}
		if denied {
			roles, want = "ann", api.ErrDenied
		}
		if noState {
			states, want = "1", api.ErrState
		}
		if noSession {
			session, want = 2, api.ErrNone
		}
		c := of("p p", "go/write=x:0>1 to:1>0")
		x := roomOf(t, office, c, roles)
		x.checkMay(session, paperIn(c, "letter", states, done), "go", want)
	}
}

// Of several transitions of one event the one that is picked counts alone: the innermost, then the first.
func TestMayPicked(t *testing.T) {
	x := roomOf(t, office, of("", ""), "ann clerk", "bob payer")
	for _, a := range []struct {
		states, transitions, at string
		ann, bob                error
	}{
		{"p", "go/write go/pay", "0", nil, api.ErrDenied},
		{"p", "go/pay go/write", "0", api.ErrDenied, nil},
		{"p", "go/none go", "0", api.ErrDenied, api.ErrDenied},
		{"p", "go go/none", "0", nil, nil},
		{"p", "go=x go", "0", api.ErrDuty, nil},
		{"p", "go go=x", "0", nil, nil},
		{"p", "go/write=x go/pay=w", "0", api.ErrDuty, api.ErrDenied},
		// One that leads from elsewhere has no part in it.
		{"p p", "go/none=x:1>0 go/write:0>1", "0", nil, api.ErrDenied},
		{"p p", "go/none=x:1>0 go/write:0>1", "1", api.ErrDenied, api.ErrDenied},
		// The inner one, though it stands behind the outer one.
		{"p p0", "go/write:0>0 go/pay:1>1", "0 1", api.ErrDenied, nil},
		{"p p0", "go/pay:0>0 go/write:1>1", "0 1", nil, api.ErrDenied},
		{"p p0", "go:0>0 go=x:1>1", "0 1", api.ErrDuty, nil},
		{"p p0", "go=x:0>0 go:1>1", "0 1", nil, nil},
		{"p p0 p0", "go/write:0>0 go/pay:1>2", "0 2", nil, api.ErrDenied},
		// Of two regions the first in the chart, or the one further in.
		{"a p0 p0", "go/write:2>2 go/pay:1>1", "0 1 2", nil, api.ErrDenied},
		{"a p0 p0 p2", "go/write:1>1 go/pay:3>3", "0 1 2 3", api.ErrDenied, nil},
		// Of another event, or of no event.
		{"p", "to/none=x 0>0 5@0>0 go/write", "0", nil, api.ErrDenied},
	} {
		c := of(a.states, a.transitions)
		x.with(c).checkAll(paperIn(c, "letter", a.at, "y=ann"), "go", a.ann, a.bob)
	}
}

// What is asked goes by the rights that are handed in.
func TestMayOtherRights(t *testing.T) {
	c := of("p", "go/write=x to/sign=x")
	x := roomOf(t, office, c, "cat boss", "ann clerk")
	p := paperIn(c, "letter", "0", "y=ann w=cat")
	x.checkAll(p, "go", nil, api.ErrDuty)
	// Active roles are indices: boss and clerk are now what stands there.
	x.r = law(t, "role a;role b;role c > a;user cat;user ann;perm write a;perm sign c;exclusive w x")
	x.checkAll(p, "go", api.ErrDuty, nil)
	x.checkAll(p, "to", api.ErrDenied, nil)
	x.r = law(t, "")
	x.checkAll(p, "go", api.ErrDenied, api.ErrDenied)
}

// What chart and document have that is no state leads nowhere, and nothing else is harmed by it (R1, R8).
func TestMayNoState(t *testing.T) {
	c := of("p p", "")
	x := roomOf(t, office, c, "ann clerk")
	for _, from := range []int{math.MinInt, -32, -1, 2, 31, 32, 64, math.MaxInt} {
		c.Trans = []chart.Trans{{Kind: api.On, Event: "no", From: from}, {Kind: api.On, Event: "go", From: 1, To: from}}
		p := paperIn(c, "letter", "1", "")
		p.At.Set, p.At.Past, p.At.Since = math.MaxUint32, nil, nil
		x.with(c).checkMay(1, p, "no", api.ErrState)
		x.with(c).checkMay(1, p, "go", nil)
	}
}

// The errors are found by errors.Is, and no other one is (R2).
func TestMayErrors(t *testing.T) {
	c := of("p p", "go/write=x:0>1 to:1>0")
	x := roomOf(t, office, c, "ann clerk", "dan")
	for _, a := range []struct {
		session int
		event   string
		want    api.Errno
	}{{0, "go", api.ErrNone}, {1, "to", api.ErrState}, {2, "go", api.ErrDenied}, {1, "go", api.ErrDuty}} {
		err := May(x.r, x.s, a.session, c, paperIn(c, "letter", "0", "y=ann"), a.event)
		for errno := api.ErrArg; errno <= api.ErrCorrupt; errno++ {
			if errors.Is(err, errno) != (errno == a.want) {
				t.Errorf("%v is %v: %t", err, errno, errors.Is(err, errno))
			}
		}
	}
}
