package rights

import (
	"reflect"
	"slices"
	"strconv"
	"strings"
	"testing"

	"imprimatur/api"
	"imprimatur/duty"
	"imprimatur/order"
	"imprimatur/policy"
)

// rules returns the rules of a text, whose lines are separated by semicolons; the Line of each is its number in the text.
// Beyond the list is memory that would change the answers if it were read.
func rules(t *testing.T, text string) []api.Rule {
	t.Helper()
	var l []api.Rule
	// Part by part: a text of its own may have no more than MaxRules rules.
	for i, line := range strings.Split(text, ";") {
		one, err := policy.Parse(line)
		if err != nil {
			t.Fatalf("%q: %v", line, err)
		}
		for _, r := range one {
			r.Line = i + 1
			l = append(l, r)
		}
	}
	return over(l...)
}

// over returns a copy of some rules, with more beyond the end of the list and of the list of each.
func over(l ...api.Rule) []api.Rule {
	n := len(l)
	l = append(slices.Clone(l), api.Rule{}, api.Rule{Kind: api.Role, Name: "beyond"})
	for i, r := range l {
		l[i].List = append(slices.Clone(r.List), "beyond", "beyond")[:len(r.List)]
	}
	return l[:n]
}

// keptRules asks, when it is called behind a call, whether rules are as they were, the memory beyond their lists included (R4).
func keptRules(t *testing.T, l []api.Rule) func() {
	t.Helper()
	whole := func() []api.Rule {
		all := slices.Clone(l[:cap(l)])
		for i, r := range all {
			all[i].List = slices.Clone(r.List[:cap(r.List)])
		}
		return all
	}
	before := whole()
	return func() {
		t.Helper()
		if after := whole(); !reflect.DeepEqual(before, after) {
			t.Errorf("%+v became %+v", before, after)
		}
	}
}

// wipeRules changes all that rules are, and what is beyond their lists.
func wipeRules(l []api.Rule) {
	for i := range l[:cap(l)] {
		r := &l[:cap(l)][i]
		for j := range r.List[:cap(r.List)] {
			r.List[:cap(r.List)][j] = "wiped"
		}
		*r = api.Rule{Kind: api.Role, Name: "wiped", List: r.List}
	}
}

func made(t *testing.T, l []api.Rule) *Rights {
	t.Helper()
	r, err := Compile(l)
	if err != nil || r == nil {
		t.Fatalf("Compile(%+v) is %v, %v", l, r, err)
	}
	return r
}

// lent is what Lends answers.
type lent struct {
	Loan Loan
	OK   bool
}

// all is what rights answer: to Order the names, and for each of them what it is above; to the others what they are asked with a list of names.
type all struct {
	Names           []string
	Down, Up        []uint32
	Users, Perms    []string
	Has, Gives      map[string]uint32
	Static, Dynamic []duty.Set
	Apart           [][]string
	Lends           map[string]lent
}

// oddNames are asked beside those that there are.
func oddNames() []string {
	return []string{"", " ", "nobody", "none", "a", "b", "u", "p", "A", "a ", "\x00", strings.Repeat("a", api.MaxName+1)}
}

// ask returns all that rights answer, with empty lists for those that are nil.
func ask(r *Rights, names []string) all {
	o := r.Order()
	x := all{Names: o.Names(), Users: r.Users(), Perms: r.Perms(), Has: map[string]uint32{}, Gives: map[string]uint32{}, Static: r.Static(), Dynamic: r.Dynamic(), Apart: r.Apart(), Lends: map[string]lent{}}
	for i := range 32 {
		x.Down = append(x.Down, o.Down(1<<i))
		x.Up = append(x.Up, o.Up(1<<i))
	}
	for _, name := range names {
		x.Has[name] = r.Has(name)
		x.Gives[name] = r.Gives(name)
		loan, ok := r.Lends(name)
		x.Lends[name] = lent{loan, ok}
	}
	return x.plain()
}

func (x all) plain() all {
	x.Names = append([]string{}, x.Names...)
	x.Users = append([]string{}, x.Users...)
	x.Perms = append([]string{}, x.Perms...)
	x.Static = append([]duty.Set{}, x.Static...)
	x.Dynamic = append([]duty.Set{}, x.Dynamic...)
	x.Apart = append([][]string{}, x.Apart...)
	for i, l := range x.Apart {
		x.Apart[i] = append([]string{}, l...)
	}
	return x
}

// wipe changes all lists that rights hand out, and what is beyond them.
func wipe(r *Rights) {
	for _, l := range append(r.Apart(), r.Users(), r.Perms(), r.Order().Names()) {
		for i := range l[:cap(l)] {
			l[:cap(l)][i] = "wiped"
		}
	}
	for _, l := range [][]duty.Set{r.Static(), r.Dynamic()} {
		for i := range l[:cap(l)] {
			l[:cap(l)][i] = duty.Set{N: 1, Roles: 1<<32 - 1}
		}
	}
	apart := r.Apart()
	for i := range apart {
		_ = append(apart[i], "wiped")
		apart[i] = nil
	}
	clear(apart[:cap(apart)])
}

// checkAll holds what the rights of rules answer to the names that they and oddNames have, and that it is new memory, each time (R4).
func checkAll(t *testing.T, l []api.Rule, want all) {
	t.Helper()
	asked := oddNames()
	for _, r := range l {
		asked = append(append(asked, r.Name), r.List...)
	}
	want = want.full(asked)
	kept := keptRules(t, l)
	r, other := made(t, l), made(t, l)
	for range 2 {
		if got := ask(r, asked); !reflect.DeepEqual(got, want) {
			t.Errorf("the rights of %+v answer\n%+v, not\n%+v", l, got, want)
			return
		}
		wipe(r)
	}
	kept()
	wipeRules(l)
	for _, r := range []*Rights{r, other} {
		if got := ask(r, asked); !reflect.DeepEqual(got, want) {
			t.Errorf("rights became\n%+v, they were\n%+v", got, want)
		}
	}
}

// full returns what is answered, with no roles and no loan for the names that it leaves out, and as a Down and Up that it leaves out a hierarchy without pairs.
func (x all) full(names []string) all {
	x = x.plain()
	has, gives, lends := x.Has, x.Gives, x.Lends
	x.Has, x.Gives, x.Lends = map[string]uint32{}, map[string]uint32{}, map[string]lent{}
	for _, name := range names {
		x.Has[name], x.Gives[name], x.Lends[name] = has[name], gives[name], lends[name]
	}
	if x.Down == nil {
		x.Down, x.Up = hierarchyOf(len(x.Names))
	}
	return x
}

// hierarchyOf returns what each bit leads to in a hierarchy of n names and some pairs "ab": a (0) is above b (1).
func hierarchyOf(n int, pairs ...string) (down, up []uint32) {
	down, up = make([]uint32, 32), make([]uint32, 32)
	for i := range n {
		down[i], up[i] = 1<<i, 1<<i
	}
	for range n {
		for _, p := range pairs {
			senior, junior := p[0]-'a', p[1]-'a'
			down[senior] |= down[junior]
			up[junior] |= up[senior]
		}
	}
	return down, up
}

// set returns the set of the indices of some letters.
func set(letters string) (s uint32) {
	for _, b := range []byte(letters) {
		s |= 1 << (b - 'a')
	}
	return s
}

// numbered returns a text of n lines, each with its number.
func numbered(n int, line func(i int) string) string {
	var l []string
	for i := range n {
		l = append(l, line(i))
	}
	return strings.Join(l, ";")
}

// each returns a line in which # is a number.
func each(line string) func(i int) string {
	return func(i int) string {
		return strings.ReplaceAll(line, "#", strconv.Itoa(i))
	}
}

func TestNoRules(t *testing.T) {
	checkAll(t, nil, all{})
	checkAll(t, []api.Rule{}, all{})
	checkAll(t, over(), all{})
}

const ignored = "state s plain;state h past in s;state x all in none;on e from s to none by p task t;on e from h to s;auto from x to y;after 5 from y to none"

// Rules of a chart are passed over, whatever they name.
func TestIgnored(t *testing.T) {
	checkAll(t, rules(t, ignored), all{})
	checkAll(t, rules(t, ignored+";"+ignored), all{})
	for _, line := range strings.Split(ignored, ";") {
		checkAll(t, rules(t, line), all{})
		checkAll(t, rules(t, line+";user a;"+line+";role a;"+line), all{Names: []string{"a"}, Users: []string{"a"}})
	}
	checkAll(t, rules(t, strings.Repeat("state s plain;", 300)+"role s;user s s"), all{Names: []string{"s"}, Users: []string{"s"}, Has: map[string]uint32{"s": 1}})
}

const office = "user ann clerk;dsd 2 clerk payer;role head > clerk payer;perm pay payer;state s plain;role clerk > guest;exclusive write check;user bob;lend guest 3 40;" +
	"role payer;perm read guest;user cat guest clerk;ssd 4 head clerk payer guest;role guest;perm nothing;on e from s to s by nothing;exclusive check pay file;lend head 1 999999999;" +
	"dsd 3 head payer guest;user head payer;ssd 2 payer guest"

func TestAllKinds(t *testing.T) {
	x := all{
		Names:   []string{"head", "clerk", "payer", "guest"},
		Users:   []string{"ann", "bob", "cat", "head"},
		Perms:   []string{"pay", "read", "nothing"},
		Has:     map[string]uint32{"ann": set("b"), "cat": set("bd"), "head": set("c")},
		Gives:   map[string]uint32{"pay": set("ac"), "read": set("abd")},
		Static:  []duty.Set{{N: 4, Roles: set("abcd")}, {N: 2, Roles: set("cd")}},
		Dynamic: []duty.Set{{N: 2, Roles: set("bc")}, {N: 3, Roles: set("acd")}},
		Apart:   [][]string{{"write", "check"}, {"check", "pay", "file"}},
		Lends:   map[string]lent{"guest": {Loan{3, 40}, true}, "head": {Loan{1, 999999999}, true}},
	}
	x.Down, x.Up = hierarchyOf(4, "ab", "ac", "bd")
	checkAll(t, rules(t, office), x)
}

// The hierarchy is that of order.New, of the roles in their order and of each with its juniors.
func TestOrder(t *testing.T) {
	for text, pairs := range map[string][]order.Pair{
		"role a":                                    nil,
		"role b;user x;role a;role c":               nil,
		"role b > a;role a":                         {{Senior: "b", Junior: "a"}},
		"role a;role b > a;role c > b a":            {{Senior: "b", Junior: "a"}, {Senior: "c", Junior: "b"}, {Senior: "c", Junior: "a"}},
		"role d > c b;role b > a;role c > a;role a": {{Senior: "d", Junior: "c"}, {Senior: "d", Junior: "b"}, {Senior: "b", Junior: "a"}, {Senior: "c", Junior: "a"}},
	} {
		l := rules(t, text)
		var names []string
		for _, r := range l {
			if r.Kind == api.Role {
				names = append(names, r.Name)
			}
		}
		want, err := order.New(names, pairs...)
		if err != nil {
			t.Fatal(err)
		}
		o := made(t, l).Order()
		if got := o.Names(); !slices.Equal(got, names) {
			t.Errorf("%q: the roles are %q", text, got)
		}
		for s := range uint32(1 << 5) {
			if o.Down(s) != want.Down(s) || o.Up(s) != want.Up(s) {
				t.Errorf("%q: %b leads down to %b, up to %b", text, s, o.Down(s), o.Up(s))
			}
		}
		for i, a := range names {
			if o.Index(a) != i || !slices.Equal(o.Below(a), want.Below(a)) {
				t.Errorf("%q: %s is %d, above %q", text, a, o.Index(a), o.Below(a))
			}
			for _, b := range names {
				if o.Above(a, b) != want.Above(a, b) {
					t.Errorf("%q: %s above %s is %t", text, a, b, o.Above(a, b))
				}
			}
		}
	}
}

// Users and Perms are in the order of their rules, not of their names or of those of the other.
func TestUsersAndPerms(t *testing.T) {
	l := rules(t, "perm y;user m;user z;perm b;user a;role z;user k z;perm m z;perm a;role a")
	checkAll(t, l, all{
		Names: []string{"z", "a"},
		Users: []string{"m", "z", "a", "k"},
		Perms: []string{"y", "b", "m", "a"},
		Has:   map[string]uint32{"k": 1},
		Gives: map[string]uint32{"m": 1},
	})
	checkAll(t, rules(t, "user u"), all{Users: []string{"u"}})
	checkAll(t, rules(t, "perm p"), all{Perms: []string{"p"}})
}

// What a user has is what its rule names: neither what that is above nor what is above it.
func TestHas(t *testing.T) {
	r := made(t, rules(t, "role a > b;role b > c;role c;role d;user one a;user mid b;user low c;user two d a;user all d c b a;user none;perm p a b c d"))
	for user, want := range map[string]string{"one": "a", "mid": "b", "low": "c", "two": "ad", "all": "abcd", "none": "", "p": "", "a": "", "nobody": "", "": "", "One": "", "one ": ""} {
		if got := r.Has(user); got != set(want) {
			t.Errorf("Has(%q) is %b, not those of %q", user, got, want)
		}
	}
}

// What gives a permission is what its rule names and all above that, not what that is above.
func TestGives(t *testing.T) {
	r := made(t, rules(t, "role a > b;role b > c;role c;role d > c;role e;perm top a;perm mid b;perm low c;perm lone e;perm two b d;perm both e c;perm all e d c b a;perm none;user u a b c d e"))
	for perm, want := range map[string]string{"top": "a", "mid": "ab", "low": "abcd", "lone": "e", "two": "abd", "both": "abcde", "all": "abcde", "none": "", "u": "", "c": "", "nothing": "", "": "", "Top": "", "top ": ""} {
		if got := r.Gives(perm); got != set(want) {
			t.Errorf("Gives(%q) is %b, not those of %q", perm, got, want)
		}
	}
}

// A user and a permission of one name, and of a role's, are three things.
func TestOneName(t *testing.T) {
	x := all{
		Names: []string{"a", "b", "c"}, Users: []string{"a", "b"}, Perms: []string{"b", "a"},
		Has: map[string]uint32{"a": set("b"), "b": set("c")}, Gives: map[string]uint32{"a": set("c"), "b": set("ab")},
		Lends: map[string]lent{"b": {Loan{1, 1}, true}},
	}
	x.Down, x.Up = hierarchyOf(3, "ab")
	checkAll(t, rules(t, "user a b;perm b b;role a > b;role b;user b c;role c;perm a c;lend b 1 1"), x)
}

func TestStaticAndDynamic(t *testing.T) {
	const roles = "role a;role b;role c;role d;"
	names := []string{"a", "b", "c", "d"}
	first, second, third := duty.Set{N: 2, Roles: set("bd")}, duty.Set{N: 4, Roles: set("abcd")}, duty.Set{N: 3, Roles: set("abd")}
	checkAll(t, rules(t, roles+"ssd 2 b d"), all{Names: names, Static: []duty.Set{first}})
	checkAll(t, rules(t, roles+"dsd 2 d b"), all{Names: names, Dynamic: []duty.Set{first}})
	checkAll(t, rules(t, "ssd 3 d a b;"+roles+"dsd 2 b d;ssd 4 d c b a;dsd 4 a b c d;ssd 2 d b;dsd 3 a b d"), all{
		Names: names, Static: []duty.Set{third, second, first}, Dynamic: []duty.Set{first, second, third},
	})
	// One behind the other of one set of roles, and of one number.
	checkAll(t, rules(t, roles+"ssd 2 b d;ssd 2 b d;dsd 3 a b d;dsd 2 a b d"), all{
		Names: names, Static: []duty.Set{first, first}, Dynamic: []duty.Set{third, {N: 2, Roles: set("abd")}},
	})
}

func TestApart(t *testing.T) {
	checkAll(t, rules(t, "exclusive x y"), all{Apart: [][]string{{"x", "y"}}})
	checkAll(t, rules(t, "exclusive z y x;exclusive a b;exclusive z y x"), all{Apart: [][]string{{"z", "y", "x"}, {"a", "b"}, {"z", "y", "x"}}})
	many := strings.Split(numbered(5000, each("t#")), ";")
	l := over(api.Rule{Kind: api.Exclusive, List: many})
	checkAll(t, l, all{Apart: [][]string{many}})
}

func TestLends(t *testing.T) {
	r := made(t, rules(t, "lend b 2 7;role a > b;role b > c;role c;user u b;perm p b;lend c 999999999 1"))
	for role, want := range map[string]lent{"a": {}, "b": {Loan{2, 7}, true}, "c": {Loan{999999999, 1}, true}, "u": {}, "p": {}, "": {}, "nobody": {}, "B": {}, "b ": {}} {
		loan, ok := r.Lends(role)
		if got := (lent{loan, ok}); got != want {
			t.Errorf("Lends(%q) is %+v, not %+v", role, got, want)
		}
	}
}

// As many of each as may be, all of them asked.
func TestMost(t *testing.T) {
	name := func(i int) string { return "r" + strconv.Itoa(i) }
	text := strings.Join([]string{
		numbered(api.MaxRoles, each("role r#")),
		numbered(api.MaxUsers, func(i int) string { return each("user u# r# ")(i) + name(23-i) }),
		numbered(api.MaxPerms, each("perm p# r#")),
		numbered(api.MaxSets, func(i int) string { return each("ssd 2 r# ")(i) + name(i+10) }),
		numbered(api.MaxSets, func(i int) string { return each("dsd 2 r# ")(i) + name(i+11) }),
		numbered(api.MaxSets, each("exclusive r# t#")),
		numbered(api.MaxRoles, each("lend r# 2 3#")),
	}, ";")
	x := all{Has: map[string]uint32{}, Gives: map[string]uint32{}, Lends: map[string]lent{}}
	for i := range api.MaxRoles {
		n := strconv.Itoa(i)
		x.Names, x.Perms = append(x.Names, "r"+n), append(x.Perms, "p"+n)
		x.Gives["p"+n] = 1 << i
		time, _ := strconv.Atoi("3" + n)
		x.Lends["r"+n] = lent{Loan{2, time}, true}
	}
	for i := range api.MaxUsers {
		n := strconv.Itoa(i)
		x.Users = append(x.Users, "u"+n)
		x.Has["u"+n] = 1<<i | 1<<(23-i)
	}
	for i := range api.MaxSets {
		n := strconv.Itoa(i)
		x.Static = append(x.Static, duty.Set{N: 2, Roles: 1<<i | 1<<(i+10)})
		x.Dynamic = append(x.Dynamic, duty.Set{N: 2, Roles: 1<<i | 1<<(i+11)})
		x.Apart = append(x.Apart, []string{"r" + n, "t" + n})
	}
	checkAll(t, rules(t, text), x)
}

// A chain of as many roles as may be, each above the next one or above the one before it.
func TestLongChain(t *testing.T) {
	const last = api.MaxRoles - 1
	whole := uint32(1<<api.MaxRoles - 1)
	down := numbered(last, func(i int) string { return each("role r# > r")(i) + strconv.Itoa(i+1) }) + ";" + each("role r#")(last)
	up := "role r0;" + numbered(last, func(i int) string { return each("role r")(i) + strconv.Itoa(i+1) + each(" > r#")(i) })
	for text, ends := range map[string][2]int{down: {0, last}, up: {last, 0}} {
		top, low := ends[0], ends[1]
		r := made(t, rules(t, text+each(";user u r#")(top)+each(";perm p r#")(low)+each(";perm q r#")(top)))
		if has := r.Has("u"); has != 1<<top || r.Order().Down(has) != whole {
			t.Errorf("u has %b, which leads down to %b", has, r.Order().Down(has))
		}
		if p, q := r.Gives("p"), r.Gives("q"); p != whole || q != 1<<top {
			t.Errorf("p is given to %b, q to %b", p, q)
		}
	}
}
