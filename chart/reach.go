package chart

import (
	"imprimatur/api"
	"imprimatur/enter"
	"imprimatur/shape"
)

// Reach returns the states that a document can ever be in, if every transition may always be taken.
func Reach(c Chart) uint32 {
	if !shape.Valid(c.Shape) {
		return 0
	}
	reached := setOf(enter.Start(c.Shape))
	// Again until nothing is new: a transition may lead on from what one behind it reached.
	for before := uint32(0); before != reached; {
		before = reached
		for _, t := range c.Trans {
			if has(c.Shape, reached, t.From) {
				reached |= entered(c.Shape, reached, t)
			}
		}
	}
	return reached
}

// entered returns the states that a transition may enter, if documents were in those that are reached.
func entered(s shape.Shape, reached uint32, t Trans) uint32 {
	if !there(s, t.To) {
		return 0
	}
	set := setOf(enter.Enter(s, shape.Domain(s, t.From, t.To), t.To, nil))
	if s.Kinds[t.To] != api.Past {
		return set
	}
	p := s.Parents[t.To]
	for _, kid := range shape.Kids(s, p) {
		if has(s, reached, kid) {
			set |= setOf(enter.Enter(s, p, kid, nil))
		}
	}
	return set
}

// has reports whether a state is in set; what is no state is in none.
func has(s shape.Shape, set uint32, at int) bool {
	return there(s, at) && set>>at&1 == 1
}

// setOf returns the set of some states.
func setOf(l []int) uint32 {
	var set uint32
	for _, at := range l {
		set |= 1 << at
	}
	return set
}
