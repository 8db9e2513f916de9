package staff

import (
	"strconv"
	"strings"
	"testing"

	"imprimatur/api"
)

// boss is above head, which is above clerk and payer; clerk is above guest; law is a branch of its own, above guest, too.
const office = "role boss > head;role head > clerk payer;role clerk > guest;role payer;role guest;role law > guest;" +
	"user ann clerk;user bob head;user cat boss;user dan guest;user eve payer;user fay law;user gus;user hal law payer;" +
	"perm write clerk;perm pay payer;perm see guest;perm sign head;perm sue law;perm any guest payer;perm none"

func TestAble(t *testing.T) {
	r := law(t, office)
	for perm, users := range map[string]string{
		"write": "ann bob cat",
		"pay":   "bob cat eve hal",
		"see":   "ann bob cat dan fay hal",
		"sign":  "bob cat",
		"sue":   "fay hal",
		"any":   "ann bob cat dan eve fay hal",
		"none":  "",
	} {
		for _, user := range r.Users() {
			checkAble(t, r, user, perm, strings.Contains(users, user))
		}
	}
}

// Names that there are none of, as they are and near to those that there are.
func TestAbleNobodyAndNothing(t *testing.T) {
	r := law(t, office)
	for _, name := range []string{"zoe", "an", "anne", "Ann", "ann ", " ann", "clerk", "boss", "write", "\x00", "\xff", strings.Repeat("a", 1000)} {
		for _, perm := range append(r.Perms(), "", "ann", "clerk", "boss") {
			checkAble(t, r, name, perm, false)
		}
	}
	for _, perm := range []string{"zoe", "writ", "writes", "Write", "write ", " write", " ", "clerk", "boss", "ann", "\x00", "\xff", strings.Repeat("a", 1000)} {
		for _, user := range append(r.Users(), "") {
			checkAble(t, r, user, perm, false)
		}
	}
	checkAble(t, r, "", "write", false)
	checkAble(t, r, "", "none", false)
}

// No permission at all is anybody's who is a user.
func TestAbleEmptyPerm(t *testing.T) {
	r := law(t, office)
	for _, user := range r.Users() {
		checkAble(t, r, user, "", true)
	}
	for _, user := range []string{"", "zoe", "an", "Ann", "clerk", "write"} {
		checkAble(t, r, user, "", false)
	}
	none := law(t, "")
	checkAble(t, none, "ann", "", false)
	checkAble(t, none, "", "", false)
	checkAble(t, none, "ann", "write", false)
	checkAble(t, none, "", "write", false)
}

// Users, roles and permissions of one name are not one thing.
func TestAbleOneName(t *testing.T) {
	r := law(t, "role x;role y;user x y;user y x;perm x x;perm y")
	checkAble(t, r, "x", "x", false)
	checkAble(t, r, "y", "x", true)
	checkAble(t, r, "x", "y", false)
	checkAble(t, r, "y", "y", false)
}

// The duties that are to be apart have no part in what one user is able to, nor has what is lent.
func TestAbleAsksNoDuty(t *testing.T) {
	r := law(t, "role a;role b;role c;user ann a b;user bob;perm p a;perm q b;dsd 2 a b;ssd 2 b c;exclusive p q;lend a 3 30;lend b 1 1")
	checkAble(t, r, "ann", "p", true)
	checkAble(t, r, "ann", "q", true)
	checkAble(t, r, "bob", "p", false)
}

// The greatest chain of roles, with the last one's bit.
func TestAbleManyRoles(t *testing.T) {
	text := ""
	for i := range api.MaxRoles - 1 {
		text += "role r" + strconv.Itoa(i) + " > r" + strconv.Itoa(i+1) + ";"
	}
	r := law(t, text+"role r23;user top r0;user low r23;user mid r11;perm low r23;perm top r0;perm mid r12")
	for _, user := range []string{"top", "low", "mid"} {
		checkAble(t, r, user, "low", true)
		checkAble(t, r, user, "top", user == "top")
		checkAble(t, r, user, "mid", user != "low")
	}
}
