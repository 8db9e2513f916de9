package chart

import (
	"slices"

	"imprimatur/api"
	"imprimatur/policy"
	"imprimatur/rule"
	"imprimatur/shape"
)

const (
	none        = -1 // no state: as a parent, the top
	faultColumn = 1
)

// builder has the chart of the rules that were taken, and all State rules, those that are still to be taken too.
type builder struct {
	chart  Chart
	states []api.Rule
}

// Compile returns the chart of the states and transitions among some rules.
func Compile(l []api.Rule) (Chart, error) {
	// Ahead of all else: a rule that no line has is told first, wherever it stands.
	for _, r := range l {
		if _, err := rule.Print(r); err != nil {
			return Chart{}, api.ErrArg
		}
	}
	b := builder{states: policy.Of(l, api.State)}
	for _, r := range l {
		if err := b.take(r); err != nil {
			return Chart{}, &api.Fault{Line: r.Line, Column: faultColumn, Err: err}
		}
	}
	if !shape.Valid(b.chart.Shape) {
		return Chart{}, &api.Fault{Err: api.ErrNone}
	}
	return b.chart, nil
}

// take adds the state or the transition of a rule to the chart; rules of other kinds are passed over.
func (b *builder) take(r api.Rule) error {
	switch r.Kind {
	case api.State:
		return b.takeState(r)
	case api.On, api.Auto, api.After:
		return b.takeTrans(r)
	}
	return nil
}

func (b *builder) takeState(r api.Rule) error {
	c := &b.chart
	parent := slices.Index(c.Names, r.In)
	switch {
	case slices.Contains(c.Names, r.Name):
		return api.ErrThere
	case len(c.Names) >= api.MaxStates:
		return api.ErrLimit
	case r.In != "" && parent == none:
		return api.ErrNone
	case !mayStand(c.Shape, r.N, parent):
		return api.ErrArg
	}
	c.Names = append(c.Names, r.Name)
	c.Shape.Kinds = append(c.Shape.Kinds, r.N)
	c.Shape.Parents = append(c.Shape.Parents, parent)
	return nil
}

// mayStand reports whether a state of a kind may stand in a parent.
func mayStand(s shape.Shape, kind, parent int) bool {
	if stays(kind) {
		return parent == none || stays(s.Kinds[parent])
	}
	return parent != none && s.Kinds[parent] == api.Plain
}

func (b *builder) takeTrans(r api.Rule) error {
	c := &b.chart
	from, to := b.find(r.From), b.find(r.To)
	switch {
	case len(c.Trans) >= api.MaxTrans:
		return api.ErrLimit
	case from == none || to == none:
		return api.ErrNone
	case !stays(b.states[from].N):
		return api.ErrArg
	}
	// A field that the rule's kind does not have is empty in the rule, or it would have no line.
	c.Trans = append(c.Trans, Trans{Kind: r.Kind, From: from, To: to, Event: r.Name, Perm: r.By, Task: r.Task, Time: r.N})
	return nil
}

// find returns the index of the state of a name, be its rule taken already or not: if all are taken, they stand in the order of their rules.
func (b *builder) find(name string) int {
	return slices.IndexFunc(b.states, func(r api.Rule) bool {
		return r.Name == name
	})
}
