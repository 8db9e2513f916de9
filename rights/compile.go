package rights

import (
	"slices"

	"imprimatur/api"
	"imprimatur/duty"
	"imprimatur/order"
	"imprimatur/policy"
	"imprimatur/rule"
)

const faultColumn = 1

// Compile returns the rights of the roles, users and permissions among some rules.
func Compile(l []api.Rule) (*Rights, error) {
	// Ahead of all else: a rule that no line has is told first, wherever it stands.
	for _, x := range l {
		if _, err := rule.Print(x); err != nil {
			return nil, api.ErrArg
		}
	}
	o, err := hierarchy(policy.Of(l, api.Role))
	if err != nil {
		return nil, err
	}
	r := &Rights{order: o, loans: map[string]Loan{}}
	for _, x := range l {
		if err := r.take(x); err != nil {
			return nil, fault(x, err)
		}
	}
	// Only now: a set of roles that are to be apart may stand behind the users.
	for _, x := range policy.Of(l, api.User) {
		if !duty.Apart(o.Down(r.Has(x.Name)), r.static...) {
			return nil, fault(x, api.ErrDuty)
		}
	}
	return r, nil
}

// fault returns an error at the place of a rule.
func fault(x api.Rule, err error) error {
	return &api.Fault{Line: x.Line, Column: faultColumn, Err: err}
}

// hierarchy returns the order of the roles of Role rules.
func hierarchy(roles []api.Rule) (*order.Order, error) {
	names, err := roleNames(roles)
	if err != nil {
		return nil, err
	}
	pairs, err := rolePairs(roles, names)
	if err != nil {
		return nil, err
	}
	for _, x := range roles {
		if circles(pairs, x.Name) {
			return nil, fault(x, api.ErrCircle)
		}
	}
	return order.New(names, pairs...)
}

func roleNames(roles []api.Rule) ([]string, error) {
	var names []string
	for _, x := range roles {
		if slices.Contains(names, x.Name) {
			return nil, fault(x, api.ErrThere)
		}
		if len(names) >= api.MaxRoles {
			return nil, fault(x, api.ErrLimit)
		}
		names = append(names, x.Name)
	}
	return names, nil
}

// rolePairs returns each role with each of its juniors, all of which are to be among the names.
func rolePairs(roles []api.Rule, names []string) ([]order.Pair, error) {
	var pairs []order.Pair
	for _, x := range roles {
		for _, junior := range x.List {
			if !slices.Contains(names, junior) {
				return nil, fault(x, api.ErrNone)
			}
			pairs = append(pairs, order.Pair{Senior: x.Name, Junior: junior})
		}
	}
	return pairs, nil
}

// circles reports whether a chain of pairs leads from a name back to it: order.New tells that there is such a name, but not which.
func circles(pairs []order.Pair, name string) bool {
	reached := []string{name}
	for at := 0; at < len(reached); at++ {
		for _, p := range pairs {
			switch {
			case p.Senior != reached[at]:
			case p.Junior == name:
				return true
			case !slices.Contains(reached, p.Junior):
				reached = append(reached, p.Junior)
			}
		}
	}
	return false
}

// take adds what a rule says, of the roles that there are; rules of other kinds are passed over.
func (r *Rights) take(x api.Rule) (err error) {
	switch x.Kind {
	case api.User:
		r.users, err = r.withHolder(r.users, x, api.MaxUsers)
	case api.Perm:
		r.perms, err = r.withHolder(r.perms, x, api.MaxPerms)
	case api.Ssd:
		r.static, err = r.withSet(r.static, x)
	case api.Dsd:
		r.dynamic, err = r.withSet(r.dynamic, x)
	case api.Exclusive:
		r.apart, err = withTasks(r.apart, x)
	case api.Lend:
		err = r.takeLoan(x)
	}
	return err
}

func (r *Rights) withHolder(l []holder, x api.Rule, most int) ([]holder, error) {
	roles, ok := r.set(x.List)
	switch {
	case find(l, x.Name) >= 0:
		return nil, api.ErrThere
	case len(l) >= most:
		return nil, api.ErrLimit
	case !ok:
		return nil, api.ErrNone
	}
	return append(l, holder{x.Name, roles}), nil
}

func (r *Rights) withSet(l []duty.Set, x api.Rule) ([]duty.Set, error) {
	roles, ok := r.set(x.List)
	switch {
	case len(l) >= api.MaxSets:
		return nil, api.ErrLimit
	case !ok:
		return nil, api.ErrNone
	}
	return append(l, duty.Set{N: x.N, Roles: roles}), nil
}

func withTasks(l [][]string, x api.Rule) ([][]string, error) {
	if len(l) >= api.MaxSets {
		return nil, api.ErrLimit
	}
	return append(l, slices.Clone(x.List)), nil
}

func (r *Rights) takeLoan(x api.Rule) error {
	if r.order.Index(x.Name) < 0 {
		return api.ErrNone
	}
	if _, there := r.loans[x.Name]; there {
		return api.ErrThere
	}
	r.loans[x.Name] = Loan{Depth: x.N, Time: x.M}
	return nil
}

// set returns the set of some roles, and whether all of them are roles.
func (r *Rights) set(roles []string) (set uint32, ok bool) {
	for _, role := range roles {
		at := r.order.Index(role)
		if at < 0 {
			return 0, false
		}
		set |= 1 << at
	}
	return set, true
}
