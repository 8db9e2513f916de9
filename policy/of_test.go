package policy

import (
	"testing"

	"imprimatur/api"
)

// mixed returns rules of several kinds, some of them more than once.
func mixed() []api.Rule {
	return []api.Rule{
		{Kind: api.User, Name: "u", List: []string{"a", "b"}, Line: 1},
		{Kind: api.Role, Name: "a", Line: 2},
		{Kind: api.State, Name: "s", N: api.Deep, In: "t", Line: 3},
		{Kind: api.Role, Name: "b", List: []string{"a"}, Line: 5},
		{Kind: api.User, Name: "v", List: []string{"b"}, Line: 6},
		{Kind: api.On, Name: "e", From: "s", To: "t", By: "p", Task: "q", Line: 8},
		{Kind: api.Lend, Name: "a", N: 2, M: 3, Line: 9},
		{Kind: api.Role, Name: "a", Line: 10},
	}
}

// checkOf holds Of the mixed rules against those at some indices.
func checkOf(t *testing.T, kinds []int, at ...int) {
	t.Helper()
	var want []api.Rule
	for _, i := range at {
		want = append(want, mixed()[i])
	}
	if l := Of(mixed(), kinds...); !equal(l, want) {
		t.Errorf("Of %v is %+v, not %+v", kinds, l, want)
	}
}

func TestOfKinds(t *testing.T) {
	checkOf(t, nil)
	checkOf(t, []int{})
	checkOf(t, []int{api.Role}, 1, 3, 7)
	checkOf(t, []int{api.User}, 0, 4)
	checkOf(t, []int{api.State}, 2)
	checkOf(t, []int{api.Perm})
	checkOf(t, []int{api.User, api.Role}, 0, 1, 3, 4, 7)
	checkOf(t, []int{api.Role, api.User}, 0, 1, 3, 4, 7)
	checkOf(t, []int{api.Lend, api.On, api.Perm}, 5, 6)
	checkOf(t, []int{api.After, api.Auto, api.On, api.State}, 2, 5)
	checkOf(t, []int{1, 2, 3, 4, 5, 6, 7, 8, 9, 10, 11}, 0, 1, 2, 3, 4, 5, 6, 7)
}

func TestOfAgain(t *testing.T) {
	checkOf(t, []int{api.Role, api.Role}, 1, 3, 7)
	checkOf(t, []int{api.Role, api.User, api.Role, api.Role, api.User}, 0, 1, 3, 4, 7)
	checkOf(t, []int{api.Perm, api.Perm})
}

func TestOfKindsThatThereAreNot(t *testing.T) {
	checkOf(t, []int{0})
	checkOf(t, []int{-1, 12, 13, 99, 1 << 62, -1 << 62})
	checkOf(t, []int{0, api.Lend, 12}, 6)
	checkOf(t, []int{-api.Role, api.Role + 256, api.Role + 1<<32})
}

func TestOfNoRules(t *testing.T) {
	for _, l := range [][]api.Rule{nil, {}} {
		for _, kinds := range [][]int{nil, {}, {api.Role}, {0, 99}} {
			if got := Of(l, kinds...); len(got) > 0 {
				t.Errorf("Of no rules is %+v", got)
			}
		}
	}
}

// Of asks nothing of a rule but its kind.
func TestOfWrongRules(t *testing.T) {
	l := []api.Rule{{Kind: api.Role}, {}, {Kind: api.Role, Name: "A B", N: -3, List: []string{"", ""}, Line: -1}, {Kind: api.Ssd}}
	if got := Of(l, api.Role); !equal(got, []api.Rule{l[0], l[2]}) {
		t.Errorf("Of is %+v", got)
	}
}

// Each kind alone and each two kinds, held against a count by hand.
func TestOfEveryPair(t *testing.T) {
	for one := -1; one <= 13; one++ {
		for other := -1; other <= 13; other++ {
			var at []int
			for i, r := range mixed() {
				if r.Kind == one || r.Kind == other {
					at = append(at, i)
				}
			}
			checkOf(t, []int{one, other}, at...)
		}
	}
}

func TestOfLeavesItsArguments(t *testing.T) {
	l := mixed()
	kinds := []int{api.User, api.Role, api.Perm}
	got := Of(l[:5], kinds[:2]...)
	if !equal(l, mixed()) {
		t.Errorf("Of changed its argument to %+v", l)
	}
	for i := range got {
		got[i].Name = "other"
		for j := range got[i].List {
			got[i].List[j] = "other"
		}
		_ = append(got[i].List, "more")
	}
	_ = append(got[:1], api.Rule{Kind: api.On, Name: "more"})
	if !equal(l, mixed()) || kinds[0] != api.User || kinds[1] != api.Role || kinds[2] != api.Perm {
		t.Errorf("the answer of Of shares memory with its arguments: %+v, %v", l, kinds)
	}
}

// Nothing behind the end of a list is read or written, whatever room there is.
func TestOfRoom(t *testing.T) {
	list := []string{"a", "b", "c"}
	l := make([]api.Rule, 2, 8)
	l[0] = api.Rule{Kind: api.User, Name: "u", List: list[:1]}
	l[1] = api.Rule{Kind: api.Role, Name: "r"}
	behind := l[:3]
	behind[2] = api.Rule{Kind: api.User, Name: "behind"}
	got := Of(l, api.User)
	if !equal(got, []api.Rule{{Kind: api.User, Name: "u", List: []string{"a"}}}) {
		t.Errorf("Of is %+v", got)
	}
	got[0].List = append(got[0].List, "more")
	_ = append(got, api.Rule{Name: "more"})
	if list[1] != "b" || behind[2].Name != "behind" || l[1].Name != "r" {
		t.Errorf("written behind the end: %v, %+v", list, behind)
	}
}

// No two lists of one answer share memory, though two rules were given one list.
func TestOfListsApart(t *testing.T) {
	list := []string{"a", "b"}
	got := Of([]api.Rule{{Kind: api.User, Name: "u", List: list}, {Kind: api.User, Name: "v", List: list}}, api.User)
	got[0].List[0] = "other"
	if got[1].List[0] != "a" || list[0] != "a" {
		t.Errorf("two rules share a list: %+v, %v", got, list)
	}
}
