package rights

import (
	"cmp"
	"math/rand"
	"slices"
	"strconv"
	"testing"

	"imprimatur/api"
	"imprimatur/duty"
)

// The chapter once more, in another way: all that is wrong is listed, each with its step, and the first of the list is told; who is above whom is asked along all paths, by names.

// wrong is an error of the rule at an index: told in a step, and for the rule itself behind those of a lower rank.
type wrong struct {
	step, at, rank int
	err            api.Errno
}

func byName(l []api.Rule, kind int, name string) (found []api.Rule) {
	for _, r := range l {
		if r.Kind == kind && r.Name == name {
			found = append(found, r)
		}
	}
	return found
}

func ofKind(l []api.Rule, kind int) (found []api.Rule) {
	for _, r := range l {
		if r.Kind == kind {
			found = append(found, r)
		}
	}
	return found
}

// path reports whether one or more steps of juniors lead from a role to another, by way of roles that are not in seen.
func path(l []api.Rule, from, to string, seen ...string) bool {
	for _, r := range byName(l, api.Role, from) {
		for _, junior := range r.List {
			if junior == to || !slices.Contains(seen, junior) && path(l, junior, to, append(slices.Clone(seen), junior)...) {
				return true
			}
		}
	}
	return false
}

// slowDown returns the names of all roles that some roles are above.
func slowDown(l []api.Rule, roles []string) (down []string) {
	for _, low := range ofKind(l, api.Role) {
		for _, high := range roles {
			if (high == low.Name || path(l, high, low.Name)) && !slices.Contains(down, low.Name) {
				down = append(down, low.Name)
			}
		}
	}
	return down
}

func unknown(l []api.Rule, roles []string) bool {
	return slices.ContainsFunc(roles, func(role string) bool { return byName(l, api.Role, role) == nil })
}

// against reports whether somebody with some roles has too many of an Ssd set.
func against(l []api.Rule, roles []string) bool {
	down := slowDown(l, roles)
	return slices.ContainsFunc(ofKind(l, api.Ssd), func(r api.Rule) bool {
		n := 0
		for _, role := range r.List {
			if slices.Contains(down, role) {
				n++
			}
		}
		return n >= r.N
	})
}

// slowWrongs returns all that is wrong with rules that can be printed, in no order.
func slowWrongs(l []api.Rule) (found []wrong) {
	most := map[int]int{api.Role: api.MaxRoles, api.User: api.MaxUsers, api.Perm: api.MaxPerms, api.Ssd: api.MaxSets, api.Dsd: api.MaxSets, api.Exclusive: api.MaxSets, api.Lend: 1 << 30}
	for at, r := range l {
		add := func(ok bool, step, rank int, err api.Errno) {
			if ok {
				found = append(found, wrong{step, at, rank, err})
			}
		}
		named := slices.Contains([]int{api.Role, api.User, api.Perm, api.Lend}, r.Kind)
		again := named && byName(l[:at], r.Kind, r.Name) != nil
		full := most[r.Kind] > 0 && len(ofKind(l[:at], r.Kind)) >= most[r.Kind]
		if r.Kind == api.Role {
			add(again, 1, 0, api.ErrThere)
			add(full, 1, 1, api.ErrLimit)
			add(unknown(l, r.List), 2, 0, api.ErrNone)
			add(path(l, r.Name, r.Name), 3, 0, api.ErrCircle)
			continue
		}
		add(again, 4, 0, api.ErrThere)
		add(full, 4, 1, api.ErrLimit)
		add(slices.Contains([]int{api.User, api.Perm, api.Ssd, api.Dsd}, r.Kind) && unknown(l, r.List), 4, 2, api.ErrNone)
		add(r.Kind == api.Lend && unknown(l, []string{r.Name}), 4, -1, api.ErrNone)
		add(r.Kind == api.User && against(l, r.List), 5, 0, api.ErrDuty)
	}
	return found
}

// slowSet returns the set of the indices of some roles, each counted by the Role rules ahead of it.
func slowSet(l []api.Rule, roles []string) (set uint32) {
	for i, r := range ofKind(l, api.Role) {
		if slices.Contains(roles, r.Name) {
			set |= 1 << i
		}
	}
	return set
}

// slowAll returns what the rights of rules answer in which nothing is wrong.
func slowAll(l []api.Rule) all {
	x := all{Has: map[string]uint32{}, Gives: map[string]uint32{}, Lends: map[string]lent{}, Down: make([]uint32, 32), Up: make([]uint32, 32)}
	for i, high := range ofKind(l, api.Role) {
		x.Names = append(x.Names, high.Name)
		for j, low := range ofKind(l, api.Role) {
			if i == j || path(l, high.Name, low.Name) {
				x.Down[i] |= 1 << j
				x.Up[j] |= 1 << i
			}
		}
	}
	for _, r := range l {
		switch r.Kind {
		case api.User:
			x.Users = append(x.Users, r.Name)
			x.Has[r.Name] = slowSet(l, r.List)
		case api.Perm:
			x.Perms = append(x.Perms, r.Name)
			for i, high := range ofKind(l, api.Role) {
				if slices.ContainsFunc(slowDown(l, []string{high.Name}), func(low string) bool { return slices.Contains(r.List, low) }) {
					x.Gives[r.Name] |= 1 << i
				}
			}
		case api.Ssd:
			x.Static = append(x.Static, duty.Set{N: r.N, Roles: slowSet(l, r.List)})
		case api.Dsd:
			x.Dynamic = append(x.Dynamic, duty.Set{N: r.N, Roles: slowSet(l, r.List)})
		case api.Exclusive:
			x.Apart = append(x.Apart, slices.Clone(r.List))
		case api.Lend:
			x.Lends[r.Name] = lent{Loan{r.N, r.M}, true}
		}
	}
	return x
}

// checkCompile holds Compile of rules against the second reading, and returns what it tells: "rights" or the error's text.
func checkCompile(t *testing.T, l []api.Rule) string {
	t.Helper()
	l = over(l...)
	found := slowWrongs(l)
	if len(found) == 0 {
		checkAll(t, l, slowAll(l))
		return "rights"
	}
	first := slices.MinFunc(found, func(a, b wrong) int {
		return cmp.Or(a.step-b.step, a.at-b.at, a.rank-b.rank)
	})
	checkFault(t, l, first.at, first.err)
	return first.err.Error()
}

func checkTold(t *testing.T, told map[string]int, least int, errs ...api.Errno) {
	t.Helper()
	words := []string{"rights"}
	for _, err := range errs {
		words = append(words, err.Error())
	}
	for _, what := range words {
		if told[what] < least {
			t.Errorf("%q is told %d times only, of %v", what, told[what], told)
		}
	}
}

// All lists of up to three rules of few.
func TestAllShortRules(t *testing.T) {
	lines := rules(t, "role a;role b;role a > b;role b > a;role c > a b;role c;user u;user u a;user u a b;user v b c;perm u;perm u b;perm v c a;"+
		"ssd 2 a b;ssd 2 b c;dsd 2 a b;dsd 3 c a b;exclusive a b;exclusive x y;lend a 1 2;lend a 3 4;lend b 1 9;state a plain;auto from a to b")
	told := map[string]int{}
	for _, x := range lines {
		told[checkCompile(t, []api.Rule{x})]++
		for _, y := range lines {
			told[checkCompile(t, []api.Rule{x, y})]++
			for _, z := range lines {
				told[checkCompile(t, []api.Rule{x, y, z})]++
				if t.Failed() {
					return
				}
			}
		}
	}
	checkTold(t, told, 10, api.ErrThere, api.ErrNone, api.ErrCircle)
}

// All hierarchies of up to four roles, circles among them, with users and sets.
func TestAllHierarchies(t *testing.T) {
	told := map[string]int{}
	letters := []string{"a", "b", "c", "d"}
	for juniors := range 1 << 16 {
		var l []api.Rule
		for i, name := range letters {
			r := api.Rule{Kind: api.Role, Name: name}
			for j, junior := range letters {
				if juniors>>(4*i+j)&1 == 1 {
					r.List = append(r.List, junior)
				}
			}
			l = append(l, r)
		}
		if slices.ContainsFunc(l, func(r api.Rule) bool { return slices.Contains(r.List, r.Name) }) {
			continue
		}
		l = append(l, rules(t, "user x a;user y b;user z c;perm p d;perm q a b")...)
		told[checkCompile(t, l)]++
		l = append(l, rules(t, "ssd 3 a c d;ssd 2 b d")...)
		told[checkCompile(t, l)]++
		if t.Failed() {
			return
		}
	}
	checkTold(t, told, 300, api.ErrCircle, api.ErrDuty)
}

// someNames returns different names out of n, most often few.
func someNames(random *rand.Rand, n, least int) []string {
	var l []string
	for _, i := range random.Perm(n)[:min(n, least+random.Intn(3))] {
		l = append(l, "r"+strconv.Itoa(i))
	}
	return l
}

// someRule returns a rule of some kind, with names out of n.
func someRule(random *rand.Rand, n int) api.Rule {
	name := strconv.Itoa(random.Intn(4 * n))
	switch random.Intn(9) {
	case 0, 1, 2:
		return api.Rule{Kind: api.User, Name: "u" + name, List: someNames(random, n, 0)}
	case 3, 4:
		return api.Rule{Kind: api.Perm, Name: "p" + name, List: someNames(random, n, 0)}
	case 5:
		l := someNames(random, n, 2)
		return api.Rule{Kind: api.Ssd, N: 2 + random.Intn(len(l)-1), List: l}
	case 6:
		l := someNames(random, n, 2)
		return api.Rule{Kind: api.Dsd, N: 2 + random.Intn(len(l)-1), List: l}
	case 7:
		return api.Rule{Kind: api.Exclusive, List: someNames(random, n, 2)}
	}
	return api.Rule{Kind: api.Lend, Name: "r" + strconv.Itoa(random.Intn(n)), N: 1 + random.Intn(3), M: 1 + random.Intn(99)}
}

// someRules returns roles, most often without circles, and other rules of them, most often of roles that there are.
func someRules(random *rand.Rand, roles, others int) (l []api.Rule) {
	order := random.Perm(roles)
	circle := random.Intn(6) == 0
	for i := range roles {
		r := api.Rule{Kind: api.Role, Name: "r" + strconv.Itoa(i)}
		for j := range roles {
			if i != j && (order[i] < order[j] || circle) && random.Intn(roles+2) == 0 {
				r.List = append(r.List, "r"+strconv.Itoa(j))
			}
		}
		l = append(l, r)
	}
	n := roles
	if random.Intn(10) == 0 {
		n++
	}
	for range others {
		l = slices.Insert(l, random.Intn(len(l)+1), someRule(random, max(n, 2)))
	}
	if random.Intn(20) == 0 {
		l = slices.Insert(l, random.Intn(len(l)+1), api.Rule{Kind: api.Role, Name: "r" + strconv.Itoa(random.Intn(roles)), List: []string{"r99"}})
	}
	return l
}

func TestSomeRules(t *testing.T) {
	random := rand.New(rand.NewSource(11))
	told := map[string]int{}
	for range 12000 {
		told[checkCompile(t, someRules(random, 2+random.Intn(6), random.Intn(10)))]++
		if t.Failed() {
			return
		}
	}
	checkTold(t, told, 200, api.ErrThere, api.ErrNone, api.ErrCircle, api.ErrDuty)
}

// Few roles with many rules of one kind each, so that there are too many of them.
func TestManyRules(t *testing.T) {
	random := rand.New(rand.NewSource(12))
	told := map[string]int{}
	lines := []string{"user x#", "user x# r0", "perm x#", "perm x# r1", "ssd 2 r0 r1", "dsd 2 r0 r1", "exclusive s t", "role x#", "role x# > r0"}
	for range 1500 {
		l := someRules(random, 2, random.Intn(3))
		for range 1 + random.Intn(2) {
			line := lines[random.Intn(len(lines))]
			for _, r := range rules(t, numbered(random.Intn(30), each(line))) {
				l = slices.Insert(l, random.Intn(len(l)+1), r)
			}
		}
		told[checkCompile(t, l)]++
		if t.Failed() {
			return
		}
	}
	checkTold(t, told, 100, api.ErrLimit, api.ErrThere)
}

// As many roles as may be, and all else as it comes.
func TestGreatRights(t *testing.T) {
	random := rand.New(rand.NewSource(13))
	told := map[string]int{}
	for range 300 {
		told[checkCompile(t, someRules(random, api.MaxRoles-random.Intn(3), random.Intn(12)))]++
		if t.Failed() {
			return
		}
	}
	checkTold(t, told, 10, api.ErrThere, api.ErrCircle)
}
