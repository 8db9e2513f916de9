package grants

import (
	"strconv"
	"strings"
	"testing"

	"imprimatur/api"
	"imprimatur/rights"
)

// checkHolds holds what users hold, as in "ann=abcd bob=": the letters of the roles' indices.
func checkHolds(t *testing.T, g *Grants, r *rights.Rights, text string) {
	t.Helper()
	l, last := g.List(), next(t, g)-1
	keptRights := keep(t, r)
	for range 2 {
		for _, word := range strings.Fields(text) {
			user, roles, _ := strings.Cut(word, "=")
			if got := g.Holds(r, user); got != set(roles) {
				t.Errorf("Holds(%q) is %b, not those of %q", user, got, roles)
			}
		}
	}
	keptRights()
	checkState(t, g, last, l)
}

func TestHoldsNoGrants(t *testing.T) {
	r := compiled(t, office)
	checkHolds(t, New(), r, "ann=abcdf bob=bcd cat= dan= eve=e zed= nobody= a= p= Ann=")
	checkHolds(t, New(), compiled(t, ""), "ann= a=")
	if got := New().Holds(r, ""); got != 0 {
		t.Errorf("Holds(\"\") is %b", got)
	}
}

func TestHolds(t *testing.T) {
	r := compiled(t, office)
	g := New()
	for _, x := range []struct{ give, holds string }{
		{"ann cat c 0 0 9", "ann=abcdf bob=bcd cat=cd dan= eve=e zed= nobody="},
		// Another user, one who has less by the rule, one who has as much.
		{"ann bob a 0 0 9", "ann=abcdf bob=abcd cat=cd dan= eve=e"},
		{"bob ann c 0 0 9", "ann=abcdf bob=abcd cat=cd"},
		// Several to one, one below another and one by itself.
		{"eve cat e 0 0 9", "cat=cde eve=e"},
		{"ann cat d 0 0 9", "cat=cde"},
		{"bob cat b 0 0 9", "cat=bcde bob=abcd dan="},
		// By way of a grant.
		{"cat dan b 6 0 9", "dan=bcd cat=bcde"},
		{"cat eve c 6 0 9", "eve=cde zed= nobody= b= p="},
	} {
		if _, err := give(g, r, asking(x.give)); err != nil {
			t.Fatal(x.give, err)
		}
		checkHolds(t, g, r, x.holds)
	}
	// Those that are gone are not held any more; the others are.
	if err := g.Revoke(6, "bob"); err != nil {
		t.Fatal(err)
	}
	checkHolds(t, g, r, "ann=abcdf bob=abcd cat=cde dan= eve=e")
	if err := g.Revoke(1, "ann"); err != nil {
		t.Fatal(err)
	}
	checkHolds(t, g, r, "cat=de bob=abcd")
	// What is over is held until it is removed.
	g.Expire(8)
	checkHolds(t, g, r, "ann=abcdf bob=abcd cat=de")
	g.Expire(9)
	checkHolds(t, g, r, "ann=abcdf bob=bcd cat= dan= eve=e zed=")
}

// The roles are those of the rights that are asked, by their names: the indices, what is below them, and who is a user, may be others.
func TestHoldsByOtherRights(t *testing.T) {
	r := compiled(t, office)
	g := given(t, r, "ann cat b 0 0 9", "eve cat e 0 0 9", "bob dan c 0 0 9")
	checkHolds(t, g, compiled(t, "role e > a;role c;role a;role b;user cat c;user dan"), "cat=abcd dan=b ann= bob=")
	// A role that is none any more gives nothing.
	checkHolds(t, g, compiled(t, "role a;role e;user cat;user dan a;user eve"), "cat=b dan=a eve=")
	checkHolds(t, g, compiled(t, "user cat;user dan"), "cat= dan=")
	// A user whom the rights do not name has what grants give.
	checkHolds(t, g, compiled(t, "role b > x;role x;user dan"), "cat=ab dan=")
}

// As many grants as there may be to one user, of the last of as many roles as there may be.
func TestHoldsMost(t *testing.T) {
	text, roles := "", ""
	for i := range api.MaxRoles {
		n := strconv.Itoa(i)
		text += "role r" + n + ";lend r" + n + " 1 9;"
		roles += " r" + n
	}
	r := compiled(t, text+"user all"+roles+";user none;user last r23")
	g := New()
	for i := range api.MaxGrants {
		role := "r" + strconv.Itoa(api.MaxRoles-1-i)
		if _, err := g.Give(r, "all", "none", role, 0, 0, 1); err != nil {
			t.Fatal(role, err)
		}
	}
	checkHolds(t, g, r, "none=efghijklmnopqrstuvwx last=x all=abcdefghijklmnopqrstuvwx")
}
