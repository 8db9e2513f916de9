package rights

import (
	"errors"
	"math"
	"slices"
	"strconv"
	"strings"
	"testing"

	"imprimatur/api"
)

// checkFault holds the fault of rules: the Line of the rule at an index, column 1, and what is wrapped; beside it there are no rights.
// It is asked with Lines of several sorts: those of the text, and some that no text has.
func checkFault(t *testing.T, l []api.Rule, at int, want api.Errno) {
	t.Helper()
	for _, step := range []int{0, 1, -3, 1 << 40} {
		l = over(l...)
		for i := range l {
			if step != 0 {
				l[i].Line = step * (i - 2)
			}
		}
		kept := keptRules(t, l)
		r, err := Compile(l)
		var f *api.Fault
		if r != nil || !errors.As(err, &f) || f.Line != l[at].Line || f.Column != 1 || !errors.Is(err, want) {
			t.Errorf("Compile(%+v) is %v, %+v, %v, not line %d, column 1, %v", l, r, f, err, l[at].Line, want)
		}
		kept()
	}
}

// checkNoLine holds the error of a rule that cannot be printed: it has no place.
func checkNoLine(t *testing.T, l []api.Rule) {
	t.Helper()
	l = over(l...)
	defer keptRules(t, l)()
	r, err := Compile(l)
	var f *api.Fault
	if r != nil || !errors.Is(err, api.ErrArg) || errors.As(err, &f) {
		t.Errorf("Compile(%+v) is %v, %+v, %v, not ErrArg alone", l, r, f, err)
	}
}

// noLines returns rules that no line has, of all kinds and of none.
func noLines() []api.Rule {
	two := []string{"a", "b"}
	return []api.Rule{
		{}, {Kind: -1}, {Kind: 12, Name: "a"}, {Kind: math.MinInt}, {Kind: math.MaxInt, List: two}, {Kind: api.Role + 256, Name: "a"},
		{Kind: api.Role}, {Kind: api.Role, Name: "A"}, {Kind: api.Role, Name: "x", List: []string{""}}, {Kind: api.Role, Name: "x", List: []string{"a", "a"}}, {Kind: api.Role, Name: "x", N: 1}, {Kind: api.Role, Name: "xxxxxxxxxxxxx"},
		{Kind: api.User}, {Kind: api.User, Name: "u v"}, {Kind: api.User, Name: "u", List: []string{"b", "a", "b"}}, {Kind: api.User, Name: "u", By: "p"}, {Kind: api.User, Name: "u", List: []string{"#"}},
		{Kind: api.Perm}, {Kind: api.Perm, Name: "p\n"}, {Kind: api.Perm, Name: "p", List: []string{"a", "a"}}, {Kind: api.Perm, Name: "p", In: "a"},
		{Kind: api.Ssd, N: 1, List: two}, {Kind: api.Ssd, N: 3, List: two}, {Kind: api.Ssd, N: 2}, {Kind: api.Ssd, N: 2, List: []string{"a", "a"}}, {Kind: api.Ssd, N: 2, List: two, Name: "s"}, {Kind: api.Ssd, N: math.MinInt, List: two},
		{Kind: api.Dsd, N: 0, List: two}, {Kind: api.Dsd, N: 3, List: two}, {Kind: api.Dsd, N: 1, List: []string{"a"}}, {Kind: api.Dsd, N: 2, List: []string{"a", "B"}}, {Kind: api.Dsd, N: 2, M: 1, List: two},
		{Kind: api.Exclusive}, {Kind: api.Exclusive, List: []string{"t"}}, {Kind: api.Exclusive, List: []string{"t", "t"}}, {Kind: api.Exclusive, List: two, N: 2},
		{Kind: api.Lend, Name: "a"}, {Kind: api.Lend, Name: "a", N: 0, M: 1}, {Kind: api.Lend, Name: "a", N: 1, M: 0}, {Kind: api.Lend, Name: "a", N: -1, M: 1}, {Kind: api.Lend, N: 1, M: 1}, {Kind: api.Lend, Name: "a", N: 1, M: api.MaxTime + 1}, {Kind: api.Lend, Name: "a", N: 1, M: 1, List: two},
		{Kind: api.State, Name: "s"}, {Kind: api.State, Name: "s", N: 5}, {Kind: api.State, N: api.Plain}, {Kind: api.State, Name: "s", N: api.Past, In: "A"},
		{Kind: api.On, Name: "e", From: "s"}, {Kind: api.On, From: "s", To: "s"}, {Kind: api.On, Name: "e", From: "s", To: "s", By: "P"}, {Kind: api.On, Name: "e", From: "s", To: "s", Task: " "},
		{Kind: api.Auto, From: "s"}, {Kind: api.Auto, Name: "e", From: "s", To: "s"},
		{Kind: api.After, From: "s", To: "s"}, {Kind: api.After, N: -1, From: "s", To: "s"}, {Kind: api.After, N: 1, To: "s"}, {Kind: api.After, N: api.MaxTime + 1, From: "s", To: "s"},
	}
}

// A rule that no line has is told ahead of all else, wherever it stands.
func TestNoLine(t *testing.T) {
	right := rules(t, "role a > b;user u a;role b;"+ignored)
	wrong := rules(t, "role a;role a;role c > none;role d > e;role e > d;user u a none;user v a b;ssd 2 a b;role b;lend none 1 1")
	for _, bad := range noLines() {
		checkNoLine(t, []api.Rule{bad})
		for _, l := range [][]api.Rule{right, wrong} {
			for at := range len(l) + 1 {
				checkNoLine(t, slices.Insert(slices.Clone(l), at, bad))
			}
		}
	}
	// A role that is its own junior has no line.
	checkNoLine(t, []api.Rule{{Kind: api.Role, Name: "a", List: []string{"a"}}})
	checkNoLine(t, []api.Rule{{Kind: api.Role, Name: "a"}, {Kind: api.Role, Name: "b", List: []string{"a", "b"}}})
}

func TestRoleThere(t *testing.T) {
	checkFault(t, rules(t, "role a;role a"), 1, api.ErrThere)
	checkFault(t, rules(t, "role a;user a;perm a;role b;state a plain;role a > b;role b"), 5, api.ErrThere)
	checkFault(t, rules(t, "role a > b;role b;role b > a"), 2, api.ErrThere)
	made(t, rules(t, "role a;role aa;role a-;role -a;role 0;role role"))
}

func TestRoleLimit(t *testing.T) {
	most := numbered(api.MaxRoles, each("role r#"))
	made(t, rules(t, most))
	checkFault(t, rules(t, most+";user u;role x"), api.MaxRoles+1, api.ErrLimit)
	checkFault(t, rules(t, "role x;"+most), api.MaxRoles, api.ErrLimit)
	checkFault(t, rules(t, numbered(1000, each("role r#"))), api.MaxRoles, api.ErrLimit)
	// A name again is told as that, however many there are.
	checkFault(t, rules(t, most+";role r0"), api.MaxRoles, api.ErrThere)
	checkFault(t, rules(t, most+";role r23;role x"), api.MaxRoles, api.ErrThere)
	checkFault(t, rules(t, most+";role x;role r23"), api.MaxRoles, api.ErrLimit)
}

func TestJuniorNone(t *testing.T) {
	checkFault(t, rules(t, "role a > b"), 0, api.ErrNone)
	checkFault(t, rules(t, "role a;role b > a none;role c > none"), 1, api.ErrNone)
	checkFault(t, rules(t, "role a > c;role b > none a;role c"), 1, api.ErrNone)
	checkFault(t, rules(t, "user b;perm b;state b plain;role a > b;exclusive b c"), 3, api.ErrNone)
	checkFault(t, rules(t, "role a > b;role bb;role b-"), 0, api.ErrNone)
	made(t, rules(t, "role a > b c;user u a;role b > c;role c"))
	checkFault(t, over(api.Rule{Kind: api.Role, Name: "a", List: strings.Split(numbered(100000, each("r#")), ";")}), 0, api.ErrNone)
}

// A circle is told at the first rule of a role on it, not at one of a role that is above it or below it.
func TestCircle(t *testing.T) {
	checkFault(t, rules(t, "role a > b;role b > a"), 0, api.ErrCircle)
	checkFault(t, rules(t, "role a > b;role b > c;role c > a"), 0, api.ErrCircle)
	checkFault(t, rules(t, "role x;role b > c;user u b;role c > a;role a > b"), 1, api.ErrCircle)
	checkFault(t, rules(t, "role above > a;role a > b;role b > a"), 1, api.ErrCircle)
	checkFault(t, rules(t, "role top > above;role above > b a;role low;role b > a low;role a > b low"), 3, api.ErrCircle)
	checkFault(t, rules(t, "role low;role a > low b;role b > a"), 1, api.ErrCircle)
	checkFault(t, rules(t, "role low > lowest;role lowest;role between > c low;role a > b between;role c > d;role d > c;role b"), 4, api.ErrCircle)
	// Two circles, one of which is above the other, or has roles in common with it.
	checkFault(t, rules(t, "role a > b c;role b > a;role c > d;role d > c"), 0, api.ErrCircle)
	checkFault(t, rules(t, "role c > d;role d > c;role a > b c;role b > a"), 0, api.ErrCircle)
	checkFault(t, rules(t, "role x > a c;role c > d;role a > b c;role d > c;role b > a"), 1, api.ErrCircle)
	checkFault(t, rules(t, "role x > c;role a > b c;role b > a;role c > a"), 1, api.ErrCircle)
	made(t, rules(t, "role a > b c d;role b > d c;role c > d;role d"))
}

// A circle of all roles that there may be, and one of two below a long chain.
func TestLongCircle(t *testing.T) {
	const last = api.MaxRoles - 1
	next := func(i int) string { return "role r" + strconv.Itoa(i) + " > r" + strconv.Itoa(i+1) }
	chain := numbered(last, next)
	made(t, rules(t, chain+each(";role r#")(last)))
	checkFault(t, rules(t, chain+each(";role r# > r0")(last)), 0, api.ErrCircle)
	checkFault(t, rules(t, chain+each(";role r# > r22")(last)), last-1, api.ErrCircle)
	checkFault(t, rules(t, chain+each(";role r# > r9")(last)), 9, api.ErrCircle)
}

func TestUserThere(t *testing.T) {
	checkFault(t, rules(t, "user u;user u"), 1, api.ErrThere)
	checkFault(t, rules(t, "user u a;perm u;user v;role a;user u b;role b"), 4, api.ErrThere)
	made(t, rules(t, "user u;user uu;user u-;user -;user user"))
}

func TestPermThere(t *testing.T) {
	checkFault(t, rules(t, "perm p;perm p"), 1, api.ErrThere)
	checkFault(t, rules(t, "perm p a;user p;perm q;role a;perm p b;role b"), 4, api.ErrThere)
	made(t, rules(t, "perm p;perm pp;perm p-;perm -;perm perm"))
}

// checkMost holds that there may be some rules of a kind beside others, and one more not, nor one that is wrong in a lesser way.
func checkMost(t *testing.T, before string, n int, line string, worse ...string) {
	t.Helper()
	most := before + numbered(n, each(line))
	made(t, rules(t, most))
	at := strings.Count(most, ";") + 1
	checkFault(t, rules(t, most+";"+each(line)(n)), at, api.ErrLimit)
	checkFault(t, rules(t, most+";"+each(line)(n)+";"+each(line)(n+1)), at, api.ErrLimit)
	for _, line := range worse {
		checkFault(t, rules(t, most+";"+line), at, api.ErrLimit)
	}
}

func TestLimits(t *testing.T) {
	const roles = "role a;role b;"
	checkMost(t, "", api.MaxUsers, "user u#", "user x none")
	checkMost(t, "", api.MaxPerms, "perm p#", "perm x none")
	checkMost(t, roles, api.MaxUsers, "user u# a", "user x a none")
	checkMost(t, roles, api.MaxPerms, "perm p# b a", "perm x none a")
	checkMost(t, roles, api.MaxSets, "ssd 2 a b", "ssd 2 a none")
	checkMost(t, roles, api.MaxSets, "dsd 2 a b", "dsd 2 none b")
	checkMost(t, roles, api.MaxSets, "exclusive s# t#")
	checkMost(t, roles, api.MaxSets, "exclusive s t")
}

// Each kind has a limit of its own: it is as far off as ever while all others are full.
func TestLimitsBesideOthers(t *testing.T) {
	full := map[string]string{
		"user u#":       numbered(api.MaxUsers, each("user u#")),
		"perm p#":       numbered(api.MaxPerms, each("perm p#")),
		"ssd 2 r0 r1":   numbered(api.MaxSets, each("ssd 2 r0 r1")),
		"dsd 2 r0 r1":   numbered(api.MaxSets, each("dsd 2 r0 r1")),
		"exclusive s t": numbered(api.MaxSets, each("exclusive s t")),
		"lend r# 1 1":   numbered(api.MaxRoles, each("lend r# 1 1")),
	}
	most := map[string]int{"user u#": api.MaxUsers, "perm p#": api.MaxPerms, "ssd 2 r0 r1": api.MaxSets, "dsd 2 r0 r1": api.MaxSets, "exclusive s t": api.MaxSets}
	for line, n := range most {
		before := numbered(api.MaxRoles, each("role r#")) + ";"
		for other, text := range full {
			if other != line {
				before += text + ";"
			}
		}
		checkMost(t, before, n, line)
	}
}

// A user or a permission again is told as that, however many there are, whatever roles it names.
func TestThereFirst(t *testing.T) {
	users, perms := numbered(api.MaxUsers, each("user u#")), numbered(api.MaxPerms, each("perm p#"))
	checkFault(t, rules(t, users+";user u11"), api.MaxUsers, api.ErrThere)
	checkFault(t, rules(t, users+";user u0 none"), api.MaxUsers, api.ErrThere)
	checkFault(t, rules(t, "user u;user u none"), 1, api.ErrThere)
	checkFault(t, rules(t, perms+";perm p23"), api.MaxPerms, api.ErrThere)
	checkFault(t, rules(t, perms+";perm p0 none"), api.MaxPerms, api.ErrThere)
	checkFault(t, rules(t, "perm p;perm p none"), 1, api.ErrThere)
}

func TestRoleNone(t *testing.T) {
	const roles = "role a;role b;user u;perm p;exclusive s t;state x plain;"
	for _, line := range []string{"user v @", "perm q @", "user v a @", "perm q a @", "user v @ b a", "perm q @ b a", "ssd 2 a @", "ssd 2 @ a", "ssd 3 a @ b", "dsd 2 a @", "dsd 2 @ a", "dsd 3 a @ b", "lend @ 1 1"} {
		for _, name := range []string{"none", "aa", "u", "p", "s", "t", "x", "v", "0"} {
			line := strings.ReplaceAll(line, "@", name)
			checkFault(t, rules(t, roles+line), 6, api.ErrNone)
			checkFault(t, rules(t, line+";"+roles+line), 0, api.ErrNone)
		}
	}
	for _, line := range []string{"user v a", "perm q a", "ssd 2 a b", "dsd 2 a b", "lend a 1 1"} {
		checkFault(t, rules(t, line), 0, api.ErrNone)
		made(t, rules(t, line+";role b;role a"))
	}
	// The names of tasks are no roles.
	made(t, rules(t, "exclusive s t"))
}

func TestLendThere(t *testing.T) {
	checkFault(t, rules(t, "role a;lend a 1 1;lend a 1 1"), 2, api.ErrThere)
	checkFault(t, rules(t, "lend a 1 1;role a > b;lend b 1 1;role b;lend b 9 9;lend a 1 1"), 4, api.ErrThere)
	checkFault(t, rules(t, "role a;lend none 1 1;lend none 1 1"), 1, api.ErrNone)
	made(t, rules(t, "role a > b;lend a 1 1;role b;lend b 1 1"))
}

const apartRoles = "role a > b;role b > c;role c;role d > e;role e;role f;"

// Users who have as many roles of an Ssd set as it names, by their rules or by way of others.
func TestDuty(t *testing.T) {
	for text, ok := range map[string]bool{
		"user u a b;ssd 2 a b":                 false,
		"user u a;ssd 2 a b":                   false,
		"user u b;ssd 2 a b":                   true,
		"user u a;ssd 2 b c":                   false,
		"user u b;ssd 2 b c":                   false,
		"user u c;ssd 2 b c":                   true,
		"user u a;ssd 2 a c":                   false,
		"user u a;ssd 3 a b c":                 false,
		"user u b;ssd 3 a b c":                 true,
		"user u b f;ssd 3 a b c":               true,
		"user u b f;ssd 3 b c f":               false,
		"user u c e;ssd 2 c e":                 false,
		"user u d a;ssd 2 c e":                 false,
		"user u d;ssd 2 c e":                   true,
		"user u d f;ssd 3 d e f":               false,
		"user u d f;ssd 4 d e f a":             true,
		"user u a b c d e f;ssd 6 a b c d e f": false,
		"user u a d;ssd 6 a b c d e f":         true,
		"user u a d f;ssd 6 a b c d e f":       false,
		"user u;ssd 2 a b":                     true,
		"perm p a b;ssd 2 a b":                 true,
		"lend a 1 1;ssd 2 a b;user u":          true,
	} {
		user, set, _ := strings.Cut(text, ";")
		for i, text := range []string{apartRoles + text, apartRoles + set + ";" + user, apartRoles + "user x;ssd 2 a f;" + text, text + ";" + apartRoles} {
			at := []int{6, strings.Count(apartRoles+set, ";") + 1, 8, 0}[i]
			if ok {
				made(t, rules(t, text))
			} else {
				checkFault(t, rules(t, text), at, api.ErrDuty)
			}
		}
		// Of a session it may be too much, not of a user.
		made(t, rules(t, apartRoles+strings.ReplaceAll(text, "ssd", "dsd")))
	}
}

// The first user is told that is against any of the sets, not one that is against the first set.
func TestFirstUser(t *testing.T) {
	const sets = "ssd 2 c e;ssd 2 e f;ssd 3 d e f;"
	checkFault(t, rules(t, apartRoles+sets+"user ok a;user u e f;user v c e"), 10, api.ErrDuty)
	checkFault(t, rules(t, apartRoles+sets+"user ok a;user v c e;user u e f"), 10, api.ErrDuty)
	checkFault(t, rules(t, "user ok a;user none;user w d f;user v c e;"+apartRoles+sets+"user u e f"), 2, api.ErrDuty)
	made(t, rules(t, apartRoles+sets+"user ok a;user none;user w d;user v c f"))
}

// Rules that are wrong: the step in which each is told, and at which of its lines; # makes names their own.
type wrongRules struct {
	step  int
	text  string
	place int
	want  api.Errno
}

const base = "role a > b;role b;role c;user u a;perm p b;ssd 2 b c;dsd 2 a c;lend a 2 5;exclusive s t;state x plain"

func wrongs() []wrongRules {
	return []wrongRules{
		{1, "role a", 0, api.ErrThere},
		{1, "role b > a none", 0, api.ErrThere},
		{2, "role x# > none", 0, api.ErrNone},
		{2, "role x# > y#;role y# > x# none", 1, api.ErrNone},
		{3, "role x# > y#;role y# > x#", 0, api.ErrCircle},
		{3, "role z# > x#;role x# > y#;role y# > x#", 1, api.ErrCircle},
		{4, "user u", 0, api.ErrThere},
		{4, "user v# b c none", 0, api.ErrNone},
		{4, "perm p", 0, api.ErrThere},
		{4, "perm q# none", 0, api.ErrNone},
		{4, "ssd 2 a none", 0, api.ErrNone},
		{4, "dsd 2 none a", 0, api.ErrNone},
		{4, "lend none 1 1", 0, api.ErrNone},
		{4, "lend a 1 1", 0, api.ErrThere},
		{4, strings.Repeat("ssd 2 b c;", api.MaxSets-1) + "ssd 2 b c", api.MaxSets - 1, api.ErrLimit},
		{4, strings.Repeat("dsd 2 b c;", api.MaxSets-1) + "dsd 2 b c", api.MaxSets - 1, api.ErrLimit},
		{4, strings.Repeat("exclusive b c;", api.MaxSets-1) + "exclusive b c", api.MaxSets - 1, api.ErrLimit},
		{5, "user w# b c", 0, api.ErrDuty},
		{5, "user w# c a", 0, api.ErrDuty},
	}
}

// Of two that are wrong the one of the earlier step is told, wherever they stand; of two of one step the first one.
func TestOrderOfErrors(t *testing.T) {
	made(t, rules(t, base))
	for i, first := range wrongs() {
		one := each(first.text)(1)
		checkFault(t, rules(t, base+";"+one), 10+first.place, first.want)
		for j, second := range wrongs() {
			if i == j && strings.Contains(first.text, "2 b c;") {
				continue
			}
			two := each(second.text)(2)
			l := rules(t, base+";"+one+";"+two)
			if first.step <= second.step {
				checkFault(t, l, 10+first.place, first.want)
			} else {
				checkFault(t, l, 10+strings.Count(one, ";")+1+second.place, second.want)
			}
		}
	}
}

// Of the rules that are told one behind the other, each is asked with those ahead of it alone.
func TestAheadAlone(t *testing.T) {
	full := numbered(api.MaxUsers, each("user u#"))
	checkFault(t, rules(t, "user v none;"+full), 0, api.ErrNone)
	checkFault(t, rules(t, "role a;lend a 1 1;user v none;lend a 1 1"), 2, api.ErrNone)
	checkFault(t, rules(t, "role a;role b;ssd 2 a none;"+strings.Repeat("ssd 2 a b;", api.MaxSets)), 2, api.ErrNone)
	checkFault(t, rules(t, "user v a b;role a;ssd 2 a b;role b;user w none"), 4, api.ErrNone)
	checkFault(t, rules(t, "user v a b;role a;ssd 2 a b;role b;user w a b"), 0, api.ErrDuty)
}
