package seats

import (
	"slices"
	"strconv"
	"testing"

	"imprimatur/api"
	"imprimatur/grants"
)

func TestOpen(t *testing.T) {
	x := roomOf(t, compiled(t, office), grants.New())
	checkDone(x, "open bob", 1, 1, "1 bob")
	checkDone(x, "open ann", 2, 2, "1 bob", "2 ann")
	// A user without roles, and one who has a session already.
	checkDone(x, "open zed", 3, 3, "1 bob", "2 ann", "3 zed")
	checkDone(x, "open bob", 4, 4, "1 bob", "2 ann", "3 zed", "4 bob")
	// By other rights: a user of these.
	checkDone(x.with(compiled(t, "user new"), grants.New()), "open new", 5, 5, "1 bob", "2 ann", "3 zed", "4 bob", "5 new")
}

func TestOpenNone(t *testing.T) {
	x := roomOf(t, compiled(t, office), grants.New())
	for range 2 {
		for _, user := range []string{"-", "nobody", "a", "p", "none", "Ann", "an", "annn", "ann,", "\x00", "1"} {
			checkRefused(x, "open "+user, api.ErrNone)
		}
		x = roomOf(t, x.r, x.g, "ann a", "bob", "zed")
	}
	checkRefused(x.with(compiled(t, ""), grants.New()), "open ann", api.ErrNone)
	checkRefused(x.with(compiled(t, "role ann;perm ann;user bob"), grants.New()), "open ann", api.ErrNone)
}

// No role is active at first, whatever the user's other sessions have, or what closed ones had.
func TestOpenNoRoles(t *testing.T) {
	x := roomOf(t, compiled(t, office), grants.New(), "ann a b c", "ann d", "dan d e f")
	checkDone(x, "open ann", 4, 4, "1 ann abc", "2 ann d", "3 dan def", "4 ann")
	checkDone(x, "close 3", 0, 4, "1 ann abc", "2 ann d", "4 ann")
	checkDone(x, "open dan", 5, 5, "1 ann abc", "2 ann d", "4 ann", "5 dan")
	checkDone(x, "close 1", 0, 5, "2 ann d", "4 ann", "5 dan")
	checkDone(x, "open ann", 6, 6, "2 ann d", "4 ann", "5 dan", "6 ann")
}

// full returns as many sessions as there may be: those of odd numbers are ann's, the others bob's.
func full(t *testing.T) (x room, texts []string) {
	t.Helper()
	x = roomOf(t, compiled(t, office), grants.New())
	for i := range api.MaxSessions {
		user := []string{"ann", "bob"}[i%2]
		texts = append(texts, strconv.Itoa(i+1)+" "+user)
		checkDone(x, "open "+user, i+1, i+1, texts...)
	}
	return x, texts
}

func TestOpenLimit(t *testing.T) {
	x, texts := full(t)
	for _, user := range []string{"ann", "bob", "cat", "dan", "zed"} {
		checkRefused(x, "open "+user, api.ErrLimit)
	}
	// Behind a Close there is room for one, and no more.
	n := api.MaxSessions
	for _, at := range []int{0, 4, n - 1} {
		number := seats(texts[at])[0].Number
		texts = slices.Delete(texts, at, at+1)
		last := next(t, x.s) - 1
		checkDone(x, "close "+strconv.Itoa(number), 0, last, texts...)
		texts = append(texts, strconv.Itoa(last+1)+" zed")
		checkDone(x, "open zed", last+1, last+1, texts...)
		checkRefused(x, "open zed", api.ErrLimit)
		checkRefused(x, "open cat", api.ErrLimit)
	}
}

func TestOpenErrorsInOrder(t *testing.T) {
	x, _ := full(t)
	checkRefused(x, "open nobody", api.ErrNone)
	checkRefused(x, "open -", api.ErrNone)
	checkRefused(x.with(compiled(t, "user cat"), grants.New()), "open ann", api.ErrNone)
	checkRefused(x.with(compiled(t, "user cat"), grants.New()), "open cat", api.ErrLimit)
}

// The greatest number ever used counts, be the session there or not; a number that was refused is not used.
func TestOpenNumbers(t *testing.T) {
	x := roomOf(t, compiled(t, office), grants.New(), "ann", "bob", "cat")
	checkDone(x, "close 3", 0, 3, "1 ann", "2 bob")
	checkDone(x, "open dan", 4, 4, "1 ann", "2 bob", "4 dan")
	checkDone(x, "close 1", 0, 4, "2 bob", "4 dan")
	checkDone(x, "open ann", 5, 5, "2 bob", "4 dan", "5 ann")
	checkRefused(x, "open nobody", api.ErrNone)
	checkDone(x, "close 5", 0, 5, "2 bob", "4 dan")
	checkDone(x, "close 4", 0, 5, "2 bob")
	checkDone(x, "close 2", 0, 5)
	checkDone(x, "open zed", 6, 6, "6 zed")
	// Over and over, far more numbers than sessions.
	for n := 6; n < 60; n++ {
		checkDone(x, "close "+strconv.Itoa(n), 0, n)
		checkDone(x, "open bob", n+1, n+1, strconv.Itoa(n+1)+" bob")
	}
}

func TestClose(t *testing.T) {
	all := []string{"1 ann ab", "2 bob c", "3 cat", "4 dan df", "5 ann d"}
	for at := range all {
		x := roomOf(t, compiled(t, office), grants.New(), "ann a b", "bob c", "cat", "dan d f", "ann d")
		left := slices.Delete(slices.Clone(all), at, at+1)
		checkDone(x, "close "+strconv.Itoa(at+1), 0, 5, left...)
		checkRefused(x, "close "+strconv.Itoa(at+1), api.ErrNone)
		for len(left) > 0 {
			// The one in the middle of those that are left.
			at := len(left) / 2
			number := seats(left[at])[0].Number
			left = slices.Delete(left, at, at+1)
			checkDone(x, "close "+strconv.Itoa(number), 0, 5, left...)
			checkRefused(x, "close "+strconv.Itoa(number), api.ErrNone)
		}
	}
}

func TestCloseNone(t *testing.T) {
	numbers := []string{"0", "-1", "-2", "2", "4", "6", "7", "99", "4294967296", "4294967297", "-9223372036854775808", "9223372036854775807"}
	x := roomOf(t, compiled(t, office), grants.New())
	for _, n := range append(numbers, "1", "3", "5") {
		checkRefused(x, "close "+n, api.ErrNone)
	}
	x = roomOf(t, x.r, x.g, "ann a", "bob b", "cat", "dan d", "zed")
	checkDone(x, "close 2", 0, 5, "1 ann a", "3 cat", "4 dan d", "5 zed")
	checkDone(x, "close 4", 0, 5, "1 ann a", "3 cat", "5 zed")
	for _, n := range numbers {
		checkRefused(x, "close "+n, api.ErrNone)
	}
}
