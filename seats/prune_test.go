package seats

import (
	"slices"
	"strings"
	"testing"

	"imprimatur/api"
	"imprimatur/grants"
)

// checkPruned holds which sessions lose a role, and all sessions behind it, changes the answer, and holds that none loses one when it is asked again.
func checkPruned(x room, numbers []int, want ...string) {
	x.t.Helper()
	last := next(x.t, x.s) - 1
	kept := keep(x.t, x.r, x.g)
	got := x.s.Prune(x.r, x.g)
	if !slices.Equal(got, numbers) {
		x.t.Errorf("Prune tells %v, not %v", got, numbers)
	}
	got = got[:cap(got)]
	for i := range got {
		got[i] = -1
	}
	checkState(x.t, x.s, last, want...)
	if again := x.s.Prune(x.r, x.g); len(again) > 0 {
		x.t.Errorf("Prune tells %v when it is asked again", again)
	}
	kept()
	checkState(x.t, x.s, last, want...)
}

// shop has ann with a and cat with d by rules; bob, dan and eve have what is lent to them alone.
const shop = "role a > b;role b > c;role c;role d;role e;user ann a;user bob;user cat d;user dan e;user eve;" +
	"lend a 3 100;lend b 3 100;lend c 3 100;lend d 3 100"

// counter has sessions of several users, with roles by rules and by grants: 1 lends b to bob, 2 c on to dan, 3 d to bob, 4 d to eve.
func counter(t *testing.T) room {
	t.Helper()
	r := compiled(t, shop)
	g := lent(t, r, "ann bob b 0 0 50", "bob dan c 1 0 40", "cat bob d 0 0 30", "cat eve d 0 0 30")
	return roomOf(t, r, g, "bob b d", "ann a b", "dan c e", "bob c", "cat d", "eve", "dan e", "bob", "eve d")
}

func TestPruneNothing(t *testing.T) {
	x := counter(t)
	checkPruned(x, nil, "1 bob bd", "2 ann ab", "3 dan ce", "4 bob c", "5 cat d", "6 eve", "7 dan e", "8 bob", "9 eve d")
	checkPruned(room{t, x.r, x.g, New()}, nil)
	checkPruned(roomOf(t, x.r, x.g, "ann", "eve"), nil, "1 ann", "2 eve")
	// A session without active roles loses none, whatever its user holds no more.
	checkPruned(roomOf(t, x.r, x.g, "bob", "eve").with(compiled(t, "user x"), grants.New()), nil, "1 bob", "2 eve")
}

// Behind a grant that is given back, and those by way of it.
func TestPruneRevoked(t *testing.T) {
	x := counter(t)
	if err := x.g.Revoke(2, "bob"); err != nil {
		t.Fatal(err)
	}
	checkPruned(x, []int{3}, "1 bob bd", "2 ann ab", "3 dan e", "4 bob c", "5 cat d", "6 eve", "7 dan e", "8 bob", "9 eve d")
	x = counter(t)
	if err := x.g.Revoke(1, "ann"); err != nil {
		t.Fatal(err)
	}
	checkPruned(x, []int{1, 3, 4}, "1 bob d", "2 ann ab", "3 dan e", "4 bob", "5 cat d", "6 eve", "7 dan e", "8 bob", "9 eve d")
	if err := x.g.Revoke(4, "cat"); err != nil {
		t.Fatal(err)
	}
	checkPruned(x, []int{9}, "1 bob d", "2 ann ab", "3 dan e", "4 bob", "5 cat d", "6 eve", "7 dan e", "8 bob", "9 eve")
}

// Behind grants that are over.
func TestPruneExpired(t *testing.T) {
	x := counter(t)
	all := []string{"1 bob bd", "2 ann ab", "3 dan ce", "4 bob c", "5 cat d", "6 eve", "7 dan e", "8 bob", "9 eve d"}
	x.g.Expire(29)
	checkPruned(x, nil, all...)
	x.g.Expire(30)
	checkPruned(x, []int{1, 9}, "1 bob b", "2 ann ab", "3 dan ce", "4 bob c", "5 cat d", "6 eve", "7 dan e", "8 bob", "9 eve")
	x.g.Expire(40)
	checkPruned(x, []int{3}, "1 bob b", "2 ann ab", "3 dan e", "4 bob c", "5 cat d", "6 eve", "7 dan e", "8 bob", "9 eve")
	x.g.Expire(50)
	checkPruned(x, []int{1, 4}, "1 bob", "2 ann ab", "3 dan e", "4 bob", "5 cat d", "6 eve", "7 dan e", "8 bob", "9 eve")
	// All at once, and the numbers in ascending order with a session closed and one opened behind it.
	x = counter(t)
	for _, text := range []string{"close 3", "open bob", "activate 10 c", "drop 4 c", "activate 4 b"} {
		if _, err := x.call(text); err != nil {
			t.Fatal(text, err)
		}
	}
	x.g.Expire(99)
	checkPruned(x, []int{1, 4, 9, 10}, "1 bob", "2 ann ab", "4 bob", "5 cat d", "6 eve", "7 dan e", "8 bob", "9 eve", "10 bob")
}

// What is held by the rule as well, or by another grant, or by one of a role above it, stays.
func TestPruneHeldOtherwise(t *testing.T) {
	r := compiled(t, "role a > b;role b > c;role c;user ann a;user bob c;user cat;lend a 3 100;lend b 3 100;lend c 3 100")
	g := lent(t, r, "ann bob a 0 0 9", "ann cat c 0 0 9", "ann cat b 0 0 5")
	x := roomOf(t, r, g, "bob a b c", "cat b c", "cat c")
	g.Expire(5)
	checkPruned(x, []int{2}, "1 bob abc", "2 cat c", "3 cat c")
	x = roomOf(t, r, lent(t, r, "ann bob a 0 0 9", "ann cat c 0 0 5", "ann cat b 0 0 9"), "bob a b c", "cat b c", "cat c")
	x.g.Expire(5)
	checkPruned(x, nil, "1 bob abc", "2 cat bc", "3 cat c")
	x.g.Expire(9)
	checkPruned(x, []int{1, 2, 3}, "1 bob c", "2 cat", "3 cat")
}

// By other rights: the roles by their indices, the users by their names; who is no user of them holds what grants give.
func TestPruneByOtherRights(t *testing.T) {
	x := counter(t)
	// The same indices, without the hierarchy and with another user for d.
	other := compiled(t, "role a;role b;role c;role d;role e;user ann a d;user bob;user cat;user dan")
	checkPruned(x.with(other, x.g), []int{2, 3, 4, 5, 7}, "1 bob bd", "2 ann a", "3 dan c", "4 bob", "5 cat", "6 eve", "7 dan", "8 bob", "9 eve d")
}

// Nothing of Dsd is asked: what is held stays.
func TestPruneNotDuty(t *testing.T) {
	x := counter(t)
	dsd := compiled(t, strings.Replace(shop, "role e;", "role e;dsd 2 b d;dsd 2 a b;dsd 2 c e;", 1))
	checkPruned(x.with(dsd, x.g), nil, "1 bob bd", "2 ann ab", "3 dan ce", "4 bob c", "5 cat d", "6 eve", "7 dan e", "8 bob", "9 eve d")
}

// Of as many roles as there may be, just those that are held stay; of rights with fewer roles, none beyond them.
func TestPruneMost(t *testing.T) {
	text, names, half := "", "", ""
	for i := range api.MaxRoles {
		name := " " + string(rune('a'+i))
		text += "role" + name + ";"
		names += name
		if i%2 == 1 {
			half += name
		}
	}
	x := roomOf(t, compiled(t, text+"user u"+names+";user v"+names), grants.New(), "u"+names, "v"+names)
	letters := strings.ReplaceAll(names, " ", "")
	left := strings.ReplaceAll(half, " ", "")
	checkPruned(x.with(compiled(t, text+"user u"+half+";user v"+names), x.g), []int{1}, "1 u "+left, "2 v "+letters)
	checkPruned(x.with(compiled(t, "role a;role b;role c;user u a b c;user v a b c"), x.g), []int{1, 2}, "1 u b", "2 v abc")
}
