package rule

import (
	"strconv"

	"imprimatur/api"
)

// kindWords returns the words that lines begin with, each at its kind.
func kindWords() []string {
	return []string{
		api.Role:      "role",
		api.User:      "user",
		api.Perm:      "perm",
		api.Ssd:       "ssd",
		api.Dsd:       "dsd",
		api.Exclusive: "exclusive",
		api.Lend:      "lend",
		api.State:     "state",
		api.On:        "on",
		api.Auto:      "auto",
		api.After:     "after",
	}
}

// stateWords returns the words of the kinds of states, each at its kind.
func stateWords() []string {
	return []string{
		api.Plain: "plain",
		api.All:   "all",
		api.Past:  "past",
		api.Deep:  "deep",
	}
}

// rule reads a rule of any kind.
func (d *reader) rule() api.Rule {
	r := api.Rule{Kind: d.choice(kindWords())}
	switch r.Kind {
	case api.Role:
		r.Name = d.name()
		if d.skip(">") {
			r.List = d.names(1)
		}
	case api.User, api.Perm:
		r.Name = d.name()
		r.List = d.names(0)
	case api.Ssd, api.Dsd:
		r.N = d.number()
		r.List = d.names(2)
	case api.Exclusive:
		r.List = d.names(2)
	case api.Lend:
		r.Name = d.name()
		r.N = d.number()
		r.M = d.number()
	case api.State:
		r.Name = d.name()
		r.N = d.choice(stateWords())
		r.In = d.option("in")
	case api.On:
		r.Name = d.name()
		r.From, r.To = d.fromTo()
		r.By = d.option("by")
		r.Task = d.option("task")
	case api.Auto:
		r.From, r.To = d.fromTo()
	case api.After:
		r.N = d.number()
		r.From, r.To = d.fromTo()
	}
	return r
}

// lineWords returns the words of the line of a rule; if there is no such line, words that are not those of this rule.
func lineWords(r api.Rule) []string {
	l := []string{wordAt(kindWords(), r.Kind)}
	switch r.Kind {
	case api.Role:
		l = append(l, r.Name)
		if len(r.List) > 0 {
			l = append(l, ">")
		}
		return append(l, r.List...)
	case api.User, api.Perm:
		l = append(l, r.Name)
		return append(l, r.List...)
	case api.Ssd, api.Dsd:
		l = append(l, strconv.Itoa(r.N))
		return append(l, r.List...)
	case api.Exclusive:
		return append(l, r.List...)
	case api.Lend:
		return append(l, r.Name, strconv.Itoa(r.N), strconv.Itoa(r.M))
	case api.State:
		l = append(l, r.Name, wordAt(stateWords(), r.N))
		return append(l, option("in", r.In)...)
	case api.On:
		l = append(l, r.Name, "from", r.From, "to", r.To)
		l = append(l, option("by", r.By)...)
		return append(l, option("task", r.Task)...)
	case api.Auto:
		return append(l, "from", r.From, "to", r.To)
	case api.After:
		return append(l, strconv.Itoa(r.N), "from", r.From, "to", r.To)
	}
	return l
}

// wordAt returns the word at a kind, "" if there is no such kind.
func wordAt(table []string, kind int) string {
	if kind < 0 || kind >= len(table) {
		return ""
	}
	return table[kind]
}

// option returns a fixed word and the name after it, nothing if there is no name.
func option(word, name string) []string {
	if name == "" {
		return nil
	}
	return []string{word, name}
}
