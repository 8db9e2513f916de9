package rule

import (
	"imprimatur/api"
	"imprimatur/words"
)

// wrongColumn returns the column of the first word that is wrong in a line that has the form of its rule, 0 if none is.
func wrongColumn(r api.Rule, line []words.Word) int {
	// The list of a rule is the end of its line.
	list := line[len(line)-len(r.List):]
	switch r.Kind {
	case api.Role:
		return againColumn(list, r.Name)
	case api.User, api.Perm, api.Exclusive:
		return againColumn(list)
	case api.Ssd, api.Dsd:
		if r.N < 2 || r.N > len(list) {
			return line[1].Column
		}
		return againColumn(list)
	case api.Lend:
		if r.N == 0 {
			return line[2].Column
		}
		if !isTime(r.M) {
			return line[3].Column
		}
	case api.After:
		if !isTime(r.N) {
			return line[1].Column
		}
	}
	return 0
}

// againColumn returns the column of the first word of a list that stands in it before, or is one of the others; 0 if there is none.
func againColumn(list []words.Word, others ...string) int {
	seen := make(map[string]struct{}, len(list)+len(others))
	for _, name := range others {
		seen[name] = struct{}{}
	}
	for _, w := range list {
		if _, again := seen[w.Text]; again {
			return w.Column
		}
		seen[w.Text] = struct{}{}
	}
	return 0
}

func isTime(n int) bool {
	return n > 0 && n <= api.MaxTime
}
