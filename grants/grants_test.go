package grants

import (
	"errors"
	"math"
	"reflect"
	"slices"
	"strconv"
	"strings"
	"testing"

	"imprimatur/api"
	"imprimatur/duty"
	"imprimatur/policy"
	"imprimatur/rights"
)

// compiled returns the rights of a text, whose lines are separated by semicolons.
func compiled(t *testing.T, text string) *rights.Rights {
	t.Helper()
	l, err := policy.Parse(strings.ReplaceAll(text, ";", "\n"))
	if err != nil {
		t.Fatalf("%q: %v", text, err)
	}
	r, err := rights.Compile(l)
	if err != nil {
		t.Fatalf("%q: %v", text, err)
	}
	return r
}

// office is a chain of roles, a (0) above b (1) above c (2) above d (3), and two by themselves, e (4) and f (5); f has no Loan.
// zed may do nothing, and what is not a user or a role here has the name of something else.
const office = "role a > b;role b > c;role c > d;role d;role e;role f;user ann a f;user bob b;user cat;user dan;user eve e;user zed;perm p a;perm ann a;perm a b;" +
	"lend a 2 100;lend b 3 50;lend c 2 1000;lend d 1 20;lend e 1 999999999"

// ask is what Give is asked beside the rights.
type ask struct {
	from, to, role string
	way, now, time int
}

// asking returns what six words ask: from, to, role, way, now and time; "-" is the empty word.
func asking(text string) ask {
	w := strings.Fields(text)
	for i := range w[:3] {
		w[i] = strings.ReplaceAll(w[i], "-", "")
	}
	return ask{w[0], w[1], w[2], number(w[3]), number(w[4]), number(w[5])}
}

// grant returns the grant of seven words: Number, From, To, Role, Until, Depth and Way.
func grant(text string) Grant {
	w := strings.Fields(text)
	return Grant{number(w[0]), w[1], w[2], w[3], number(w[4]), number(w[5]), number(w[6])}
}

// number returns the number of a word, which may be "max", or "max" and what is added to it: the end of time.
func number(word string) int {
	rest, isMax := strings.CutPrefix(word, "max")
	if isMax && rest == "" {
		return api.MaxTime
	}
	n, err := strconv.Atoi(rest)
	if err != nil {
		panic(err)
	}
	if isMax {
		n += api.MaxTime
	}
	return n
}

func grantsOf(texts ...string) []Grant {
	l := []Grant{}
	for _, text := range texts {
		l = append(l, grant(text))
	}
	return l
}

func give(g *Grants, r *rights.Rights, a ask) (int, error) {
	return g.Give(r, a.from, a.to, a.role, a.way, a.now, a.time)
}

// given returns grants that were given one after the other.
func given(t *testing.T, r *rights.Rights, asks ...string) *Grants {
	t.Helper()
	g := New()
	for i, text := range asks {
		if n, err := give(g, r, asking(text)); n != i+1 || err != nil {
			t.Fatalf("%q is given as %d, %v", text, n, err)
		}
	}
	return g
}

// next returns the number that the next grant would get, whatever else is in the way of one.
func next(t *testing.T, g *Grants) int {
	t.Helper()
	c := g.Clone()
	c.Expire(math.MaxInt)
	n, err := c.Give(compiled(t, "role r;user x r;user y;lend r 1 1"), "x", "y", "r", 0, 0, 1)
	if err != nil {
		t.Fatalf("no grant can be given behind %v: %v", g.List(), err)
	}
	return n
}

// checkState holds the grants that there are, and the number of the next one, and changes each list that is handed out (R4).
func checkState(t *testing.T, g *Grants, last int, want []Grant) {
	t.Helper()
	for range 2 {
		l := g.List()
		if !slices.Equal(l, want) {
			t.Errorf("the grants are %+v, not %+v", l, want)
		}
		l = l[:cap(l)]
		for i := range l {
			l[i] = Grant{99, "wiped", "wiped", "wiped", 99, 99, 99}
		}
		_ = append(l, Grant{})
	}
	if n := next(t, g); n != last+1 {
		t.Errorf("the next grant is %d, not %d", n, last+1)
	}
}

func checkGiven(t *testing.T, g *Grants, r *rights.Rights, text, want string) {
	t.Helper()
	l, x := g.List(), grant(want)
	keptRights := keep(t, r)
	if n, err := give(g, r, asking(text)); n != x.Number || err != nil {
		t.Errorf("%q is given as %d, %v, not %d", text, n, err, x.Number)
	}
	keptRights()
	checkState(t, g, x.Number, append(l, x))
}

// checkRefused holds an error of Give, and that it changes nothing.
func checkRefused(t *testing.T, g *Grants, r *rights.Rights, text string, want api.Errno) {
	t.Helper()
	l, last := g.List(), next(t, g)-1
	keptRights := keep(t, r)
	for range 2 {
		if n, err := give(g, r, asking(text)); n != 0 || !errors.Is(err, want) {
			t.Errorf("%q is given as %d, %v, not %v", text, n, err, want)
		}
	}
	keptRights()
	checkState(t, g, last, l)
}

// checkTold holds Give: the error, or none (0).
func checkTold(t *testing.T, g *Grants, r *rights.Rights, text string, want api.Errno) {
	t.Helper()
	if want != 0 {
		checkRefused(t, g, r, text, want)
		return
	}
	if n, err := give(g.Clone(), r, asking(text)); n == 0 || err != nil {
		t.Errorf("%q is given as %d, %v", text, n, err)
	}
}

// answers is what rights answer.
type answers struct {
	Names, Users, Perms []string
	Sets                []uint32
	Duties              [][]duty.Set
	Apart               [][]string
	Loans               []rights.Loan
}

// keep asks, when it is called behind a call, whether rights answer what they did ahead of it.
func keep(t *testing.T, r *rights.Rights) func() {
	t.Helper()
	all := func() answers {
		o := r.Order()
		x := answers{Names: o.Names(), Users: r.Users(), Perms: r.Perms(), Duties: [][]duty.Set{r.Static(), r.Dynamic()}, Apart: r.Apart()}
		for _, user := range x.Users {
			x.Sets = append(x.Sets, r.Has(user))
		}
		for _, perm := range x.Perms {
			x.Sets = append(x.Sets, r.Gives(perm))
		}
		for i, role := range x.Names {
			loan, _ := r.Lends(role)
			x.Loans = append(x.Loans, loan)
			x.Sets = append(x.Sets, o.Down(1<<i), o.Up(1<<i))
		}
		return x
	}
	before := all()
	return func() {
		t.Helper()
		if after := all(); !reflect.DeepEqual(before, after) {
			t.Errorf("the rights %+v became %+v", before, after)
		}
	}
}

// set returns the set of the indices of some letters.
func set(letters string) (s uint32) {
	for _, b := range []byte(letters) {
		s |= 1 << (b - 'a')
	}
	return s
}

func TestNew(t *testing.T) {
	g, other := New(), New()
	checkState(t, g, 0, nil)
	r := compiled(t, office)
	if _, err := give(g, r, asking("ann bob a 0 0 1")); err != nil {
		t.Error(err)
	}
	checkState(t, g, 1, grantsOf("1 ann bob a 1 1 0"))
	checkState(t, other, 0, nil)
	checkState(t, New(), 0, nil)
}

func TestList(t *testing.T) {
	r := compiled(t, office)
	checkState(t, given(t, r, "ann zed d 0 5 6"), 1, grantsOf("1 ann zed d 11 1 0"))
	g := given(t, r, "ann zed d 0 5 6", "ann bob a 0 3 4", "bob ann c 0 9 1", "bob cat b 2 3 9", "eve ann e 0 0 1", "cat dan b 4 0 1")
	checkState(t, g, 6, grantsOf("1 ann zed d 11 1 0", "2 ann bob a 7 1 0", "3 bob ann c 10 1 0", "4 bob cat b 7 2 2", "5 eve ann e 1 1 0", "6 cat dan b 1 3 4"))
}

func TestClone(t *testing.T) {
	r := compiled(t, office)
	asks := []string{"ann bob a 0 0 100", "bob cat b 1 0 20", "cat dan b 2 0 10", "eve zed e 0 0 60"}
	all := grantsOf("1 ann bob a 100 1 0", "2 bob cat b 20 2 1", "3 cat dan b 10 3 2", "4 eve zed e 60 1 0")
	more := append(slices.Clone(all), grant("5 ann zed d 18 1 0"))
	for name, change := range map[string]func(g *Grants) error{
		"give":   func(g *Grants) error { _, err := give(g, r, asking("ann zed d 0 9 9")); return err },
		"revoke": func(g *Grants) error { return g.Revoke(1, "ann") },
		"last":   func(g *Grants) error { return g.Revoke(4, "eve") },
		"expire": func(g *Grants) error { g.Expire(15); return nil },
		"all":    func(g *Grants) error { g.Expire(math.MaxInt); return nil },
	} {
		g := given(t, r, asks...)
		c := g.Clone()
		checkState(t, c, 4, all)
		if err := change(c); err != nil {
			t.Fatal(name, err)
		}
		checkState(t, g, 4, all)
		checkGiven(t, g, r, "ann zed d 0 9 9", "5 ann zed d 18 1 0")
		c = g.Clone()
		g.Expire(math.MaxInt)
		checkState(t, c, 5, more)
		checkState(t, c.Clone(), 5, more)
	}
}

// The number of the next grant is copied, too, and counted by each for itself.
func TestCloneNumbers(t *testing.T) {
	r := compiled(t, office)
	g := given(t, r, "ann bob a 0 0 1", "ann cat a 0 0 1")
	g.Expire(1)
	c := g.Clone()
	checkState(t, c, 2, nil)
	checkGiven(t, c, r, "ann bob a 0 0 1", "3 ann bob a 1 1 0")
	checkGiven(t, c, r, "ann cat a 0 0 1", "4 ann cat a 1 1 0")
	checkGiven(t, g, r, "eve cat e 0 0 1", "3 eve cat e 1 1 0")
	checkState(t, New().Clone(), 0, nil)
	// With room behind the grants of both, which would be the same room if it were shared.
	g = given(t, r, "ann bob a 0 0 1", "ann cat a 0 0 1", "ann dan a 0 0 1")
	c = g.Clone()
	checkGiven(t, g, r, "eve cat e 0 0 1", "4 eve cat e 1 1 0")
	checkGiven(t, c, r, "eve dan e 0 0 2", "4 eve dan e 2 1 0")
	checkState(t, g, 4, grantsOf("1 ann bob a 1 1 0", "2 ann cat a 1 1 0", "3 ann dan a 1 1 0", "4 eve cat e 1 1 0"))
}
