package order

import (
	"errors"
	"slices"
	"testing"

	"imprimatur/api"
)

// checkRefused holds the error of New, beside which there is no order.
func checkRefused(t *testing.T, want api.Errno, names []string, l ...Pair) {
	t.Helper()
	if o, err := New(names, l...); o != nil || !errors.Is(err, want) {
		t.Errorf("New(%q, %q) is %v, %v, not %v", names, l, o, err, want)
	}
}

func TestErrLimit(t *testing.T) {
	checkRefused(t, api.ErrLimit, numbered(api.MaxRoles+1))
	checkRefused(t, api.ErrLimit, numbered(api.MaxRoles+1), numberedChain(3)...)
	checkRefused(t, api.ErrLimit, numbered(32))
	checkRefused(t, api.ErrLimit, numbered(33))
	checkRefused(t, api.ErrLimit, numbered(100000))
	made(t, numbered(api.MaxRoles-1))
	made(t, numbered(api.MaxRoles))
	// Pairs are not limited.
	var l []Pair
	for i, senior := range numbered(api.MaxRoles) {
		for _, junior := range numbered(api.MaxRoles)[i+1:] {
			l = append(l, Pair{senior, junior})
		}
	}
	made(t, numbered(api.MaxRoles), slices.Repeat(l, 9)...)
}

func TestErrThere(t *testing.T) {
	checkRefused(t, api.ErrThere, letters("aa"))
	checkRefused(t, api.ErrThere, letters("abca"))
	checkRefused(t, api.ErrThere, letters("abb"), pairs("ab")...)
	checkRefused(t, api.ErrThere, letters("aaa"))
	checkRefused(t, api.ErrThere, []string{"", ""})
	checkRefused(t, api.ErrThere, []string{"", "a", ""})
	names := numbered(api.MaxRoles)
	for i := range names {
		for j := range i {
			l := slices.Clone(names)
			l[i] = l[j]
			checkRefused(t, api.ErrThere, l)
		}
	}
	made(t, []string{"a", "A", "aa", "a ", " a", "a\x00", ""})
}

func TestErrNone(t *testing.T) {
	checkRefused(t, api.ErrNone, letters("ab"), pairs("ac")...)
	checkRefused(t, api.ErrNone, letters("ab"), pairs("ca")...)
	checkRefused(t, api.ErrNone, letters("ab"), pairs("cd")...)
	checkRefused(t, api.ErrNone, letters("ab"), pairs("cc")...)
	checkRefused(t, api.ErrNone, letters("ab"), pairs("ab ab ac")...)
	checkRefused(t, api.ErrNone, letters("ab"), pairs("ca ab")...)
	checkRefused(t, api.ErrNone, letters("ab"), Pair{"a", ""})
	checkRefused(t, api.ErrNone, letters("ab"), Pair{"", "b"})
	checkRefused(t, api.ErrNone, letters("ab"), Pair{})
	checkRefused(t, api.ErrNone, letters("ab"), Pair{"a", "b "})
	checkRefused(t, api.ErrNone, letters("ab"), Pair{"A", "b"})
	checkRefused(t, api.ErrNone, nil, pairs("ab")...)
	checkRefused(t, api.ErrNone, []string{}, Pair{})
}

func TestErrCircle(t *testing.T) {
	checkRefused(t, api.ErrCircle, letters("a"), pairs("aa")...)
	checkRefused(t, api.ErrCircle, letters("ab"), pairs("bb")...)
	checkRefused(t, api.ErrCircle, letters("ab"), pairs("ab bb")...)
	checkRefused(t, api.ErrCircle, []string{""}, Pair{})
	checkRefused(t, api.ErrCircle, letters("ab"), pairs("ab ba")...)
	checkRefused(t, api.ErrCircle, letters("abc"), pairs("ab bc ca")...)
	checkRefused(t, api.ErrCircle, letters("cab"), pairs("ca ab bc")...)
	checkRefused(t, api.ErrCircle, letters("abcd"), pairs("ad da bc")...)
	// Names above and below those that go round.
	checkRefused(t, api.ErrCircle, letters("abcd"), pairs("ab bc cb cd")...)
	checkRefused(t, api.ErrCircle, letters("dcba"), pairs("ab bc cb cd")...)
	checkRefused(t, api.ErrCircle, letters("abcde"), pairs("ab ac bd cd de ea")...)
	made(t, letters("abcde"), pairs("ab ac bd cd de ae")...)
}

// All of n names go round, from each of them on; one pair fewer, and none does.
func TestErrCircleOfMany(t *testing.T) {
	for n := 1; n <= api.MaxRoles; n++ {
		names := numbered(n)
		for at := range n {
			chain := numberedChain(n)
			made(t, append(names[at:n:n], names[:at]...), chain...)
			l := append(chain, Pair{names[n-1], names[0]})
			checkRefused(t, api.ErrCircle, append(names[at:n:n], names[:at]...), l...)
			checkRefused(t, api.ErrCircle, names, append(l[at:n:n], l[:at]...)...)
		}
	}
}

// Of several errors, the one that is named first is told.
func TestFirstError(t *testing.T) {
	twice := append(numbered(api.MaxRoles), "0")
	checkRefused(t, api.ErrLimit, twice)
	checkRefused(t, api.ErrLimit, numbered(api.MaxRoles+1), pairs("ab")...)
	checkRefused(t, api.ErrLimit, numbered(api.MaxRoles+1), pairs("11")...)
	checkRefused(t, api.ErrLimit, twice, pairs("ab 11")...)
	checkRefused(t, api.ErrThere, letters("aba"), pairs("ac")...)
	checkRefused(t, api.ErrThere, letters("aba"), pairs("bb")...)
	checkRefused(t, api.ErrThere, letters("aba"), pairs("ab ba")...)
	checkRefused(t, api.ErrThere, letters("aba"), pairs("bb cc")...)
	checkRefused(t, api.ErrNone, letters("ab"), pairs("aa ac")...)
	checkRefused(t, api.ErrNone, letters("ab"), pairs("ca aa")...)
	checkRefused(t, api.ErrNone, letters("ab"), pairs("ab ba cc")...)
	checkRefused(t, api.ErrNone, letters("ab"), pairs("cd dc")...)
	checkRefused(t, api.ErrNone, letters("ab"), pairs("ac ca")...)
}

// New keeps and changes neither list, and does not look behind their ends.
func TestNewLeavesItsArguments(t *testing.T) {
	names, l := letters("abcda"), pairs("ab bc ca xx")
	o := made(t, names[:3], l[:2]...)
	if !slices.Equal(names, letters("abcda")) || !slices.Equal(l, pairs("ab bc ca xx")) {
		t.Errorf("New changed its arguments to %q and %q", names, l)
	}
	for i := range names {
		names[i] = "other"
	}
	for i := range l {
		l[i] = Pair{"c", "a"}
	}
	checkBelow(t, o, "abc", "abc", "bc", "c")
}

func TestRefusedNewLeavesItsArguments(t *testing.T) {
	for _, c := range []struct {
		names, pairs string
		want         api.Errno
	}{
		{"aba", "ab", api.ErrThere}, {"ab", "ab ac", api.ErrNone}, {"ab", "ab ba", api.ErrCircle}, {"abcdefghijklmnopqrstuvwxyz", "ba", api.ErrLimit},
	} {
		names, l := letters(c.names), pairs(c.pairs)
		checkRefused(t, c.want, names, l...)
		if !slices.Equal(names, letters(c.names)) || !slices.Equal(l, pairs(c.pairs)) {
			t.Errorf("New changed its arguments to %q and %q", names, l)
		}
	}
}

// Whoever changes a list that a call returned changes neither the order nor another list.
func TestListsAreNew(t *testing.T) {
	o := made(t, letters("abc"), pairs("ab bc")...)
	names, below := o.Names(), o.Below("a")
	for _, l := range [][]string{names, below} {
		_ = append(l[:1], "more")
		_ = append(l, "more")
		slices.Reverse(l)
		checkBelow(t, o, "abc", "abc", "bc", "c")
	}
	names[0] = "other"
	if slices.Contains(below, "other") || o.Index("other") != -1 || o.Index("a") != 0 {
		t.Errorf("%q and %q share memory", names, below)
	}
	checkBelow(t, o, "abc", "abc", "bc", "c")
}

// Orders of the same names do not touch each other, and asking changes nothing.
func TestOrdersApart(t *testing.T) {
	names := letters("abc")
	one, other, none := made(t, names, pairs("ab bc")...), made(t, names, pairs("cb ba")...), made(t, names)
	for range 3 {
		checkBelow(t, one, "abc", "abc", "bc", "c")
		checkBelow(t, other, "abc", "a", "ab", "abc")
		checkBelow(t, none, "abc", "a", "b", "c")
	}
}
