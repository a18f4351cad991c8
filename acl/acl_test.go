package acl_test

import (
	"math"
	"slices"
	"testing"

	"farshelf/acl"
	"farshelf/api"
)

type list = []api.ACLEntry

var (
	success = api.Fault{}
	tooMany = api.Fault{Code: api.ErrTooMany}
)

func outOfRange(index int) api.Fault { return api.Fault{Code: api.ErrRange, Index: index} }

func malformed(index int) api.Fault { return api.Fault{Code: api.ErrMalformed, Index: index} }

// allow and deny return entries for a user, or for everyone.
func allow(user, perms int) api.ACLEntry { return api.ACLEntry{User: user, Allow: perms} }

func deny(user, perms int) api.ACLEntry { return api.ACLEntry{User: user, Deny: perms} }

// Users and permissions by short names.
const (
	all    = -1
	read   = api.PermRead
	write  = api.PermWrite
	search = api.PermSearch
	admin  = api.PermAdmin
)

// full returns a list of as many entries as are allowed.
func full() list {
	return list{allow(1, read), deny(2, write), allow(all, search), deny(7, admin), allow(0, read), deny(all, 15)}
}

// notPermissions are the numbers that are not one of the four permissions.
var notPermissions = []int{0, 3, 5, 6, 7, 9, 10, 12, 15, 16, 17, 32, -1, -2, -8, math.MinInt, math.MaxInt}

// notUsers are numbers that are not the ID of a user.
var notUsers = []int{-1, -2, 8, 9, math.MinInt, math.MaxInt}

// TestValidateAccepts checks R2.1 for valid lists.
func TestValidateAccepts(t *testing.T) {
	lists := []list{
		nil,
		{},
		full(),
		{{User: all, Allow: 5, Deny: 10}},
		{{User: 3, Allow: 14, Deny: 1}},
		{allow(2, read), allow(2, read)},
		{allow(2, read), deny(2, read)},
		slices.Repeat(list{allow(all, 15)}, api.MaxACLEntries),
	}
	for user := -1; user <= api.MaxUser; user++ {
		for perms := 1; perms <= 15; perms++ {
			lists = append(lists, list{allow(user, perms)}, list{deny(user, perms)})
		}
	}
	for _, l := range lists {
		if fault := acl.Validate(l); fault != success {
			t.Errorf("Validate(%v) = %v", l, fault)
		}
	}
}

// invalidLists are lists with their errors, for the errors of all functions.
var invalidLists = []struct {
	about string
	l     list
	fault api.Fault
}{
	{"one entry too many", append(full(), allow(1, read)), tooMany},
	{"far too many entries", slices.Repeat(full(), 1000), tooMany},

	{"user -2", list{allow(-2, read)}, outOfRange(0)},
	{"user 8", list{allow(8, read)}, outOfRange(0)},
	{"the smallest user", list{allow(math.MinInt, read)}, outOfRange(0)},
	{"the largest user", list{deny(math.MaxInt, read)}, outOfRange(0)},
	{"user 8 in entry 1", list{allow(7, read), allow(8, read)}, outOfRange(1)},
	{"user -2 in the last entry", append(full()[:5], deny(-2, read)), outOfRange(5)},

	{"the same permission in both", list{{User: 1, Allow: 1, Deny: 1}}, malformed(0)},
	{"one of several permissions in both", list{{User: 1, Allow: 7, Deny: 12}}, malformed(0)},
	{"all permissions in both", list{{User: all, Allow: 15, Deny: 15}}, malformed(0)},
	{"the last permission in both", list{{User: all, Allow: 8, Deny: 9}}, malformed(0)},
	{"no permission", list{{User: 1}}, malformed(0)},
	{"no permission for everyone", list{{User: all}}, malformed(0)},
	{"no permission for user 0", list{{}}, malformed(0)},
	{"allow 16", list{allow(1, 16)}, malformed(0)},
	{"deny 16", list{deny(1, 16)}, malformed(0)},
	{"allow 31", list{allow(1, 31)}, malformed(0)},
	{"deny 17 beside a permission", list{{User: 1, Allow: 2, Deny: 17}}, malformed(0)},
	{"allow -1", list{allow(1, -1)}, malformed(0)},
	{"deny -1", list{deny(1, -1)}, malformed(0)},
	{"allow -16", list{allow(1, -16)}, malformed(0)},
	{"the smallest allow", list{allow(1, math.MinInt)}, malformed(0)},
	{"the largest deny", list{deny(1, math.MaxInt)}, malformed(0)},
	{"deny a bit far up", list{deny(1, 1<<40|1)}, malformed(0)},
	{"no permission in entry 2", list{allow(1, read), deny(1, write), {User: 3}}, malformed(2)},
	{"deny 16 in the last entry", append(full()[:5], deny(1, 16)), malformed(5)},

	{"too many, user 8 in entry 0", append(list{allow(8, read)}, full()...), tooMany},
	{"too many, no permission in entry 3", slices.Insert(full(), 3, api.ACLEntry{}), tooMany},
	{"too many, user 8 in the last entry", append(full(), allow(8, read)), tooMany},
	{"user 8, no permission", list{{User: 8}}, outOfRange(0)},
	{"user -2, allow 16", list{allow(-2, 16)}, outOfRange(0)},
	{"user 8, a permission in both", list{{User: 8, Allow: 1, Deny: 1}}, outOfRange(0)},
	{"no permission, then user 8", list{{User: 1}, allow(8, read)}, malformed(0)},
	{"user 8, then no permission", list{allow(8, read), {User: 1}}, outOfRange(0)},
	{"no permission in entry 1, user 8 in entry 2", list{allow(1, read), {}, allow(8, read)}, malformed(1)},
	{"user 8 in entries 1 and 3", list{allow(1, 1), allow(8, 1), allow(1, 1), allow(8, 1)}, outOfRange(1)},
}

// TestInvalidLists checks the errors of R2.1 and their order, and that the
// functions of R2.2 to R2.4 have the same ones.
func TestInvalidLists(t *testing.T) {
	for _, c := range invalidLists {
		if fault := acl.Validate(c.l); fault != c.fault {
			t.Errorf("%s: Validate = %v, want %v", c.about, fault, c.fault)
		}
		for user := 0; user <= api.MaxUser; user++ {
			if ok, fault := acl.Allowed(c.l, 1, user, read); ok || fault != c.fault {
				t.Errorf("%s: Allowed for user %d = %v, %v, want %v", c.about, user, ok, fault, c.fault)
			}
		}
		if sets, fault := acl.Permissions(c.l, 1); len(sets) != 0 || fault != c.fault {
			t.Errorf("%s: Permissions = %v, %v, want %v", c.about, sets, fault, c.fault)
		}
		if l, fault := acl.Simplify(c.l); len(l) != 0 || fault != c.fault {
			t.Errorf("%s: Simplify = %v, %v, want %v", c.about, l, fault, c.fault)
		}
	}
}

// TestInvalidListFirst checks the order of the errors of R2.2 and R2.3: those
// of the list come before those of the other arguments.
func TestInvalidListFirst(t *testing.T) {
	for _, c := range invalidLists {
		for _, id := range notUsers {
			if ok, fault := acl.Allowed(c.l, id, 1, read); ok || fault != c.fault {
				t.Errorf("%s, owner %d: Allowed = %v, %v, want %v", c.about, id, ok, fault, c.fault)
			}
			if ok, fault := acl.Allowed(c.l, 1, id, 0); ok || fault != c.fault {
				t.Errorf("%s, user %d: Allowed = %v, %v, want %v", c.about, id, ok, fault, c.fault)
			}
			if sets, fault := acl.Permissions(c.l, id); len(sets) != 0 || fault != c.fault {
				t.Errorf("%s, owner %d: Permissions = %v, %v, want %v", c.about, id, sets, fault, c.fault)
			}
		}
		for _, perm := range notPermissions {
			if ok, fault := acl.Allowed(c.l, 1, 0, perm); ok || fault != c.fault {
				t.Errorf("%s, permission %d: Allowed = %v, %v, want %v", c.about, perm, ok, fault, c.fault)
			}
		}
	}
}

// TestAllowed checks R2.2.
func TestAllowed(t *testing.T) {
	cases := []struct {
		about             string
		l                 list
		owner, user, perm int
		want              bool
	}{
		{"no entries, the owner", nil, 2, 2, read, true},
		{"no entries, the owner administrates", nil, 7, 7, admin, true},
		{"no entries, another user", nil, 2, 3, read, false},
		{"no entries, user 0", nil, 2, 0, admin, true},
		{"no entries, user 0 as the owner", nil, 0, 0, write, true},
		{"no entries, another user of user 0's", nil, 0, 1, write, false},

		{"user 0 denied", list{deny(0, 15)}, 2, 0, read, true},
		{"everyone denied, user 0", list{deny(all, 15)}, 2, 0, search, true},
		{"everyone denied, the owner", list{deny(all, 15)}, 2, 2, search, false},
		{"an entry for user 0 does not cover user 1", list{allow(0, read)}, 2, 1, read, false},

		{"a user allowed", list{allow(3, write)}, 2, 3, write, true},
		{"a user allowed something else", list{allow(3, write)}, 2, 3, read, false},
		{"another user allowed", list{allow(3, write)}, 2, 4, write, false},
		{"the owner denied", list{deny(2, read)}, 2, 2, read, false},
		{"the owner denied something else", list{deny(2, read)}, 2, 2, write, true},
		{"the owner, another user denied", list{deny(3, read)}, 2, 2, read, true},
		{"the owner, another user allowed", list{allow(3, read)}, 2, 2, read, true},
		{"everyone allowed", list{allow(all, search)}, 2, 7, search, true},
		{"everyone allowed something else", list{allow(all, search)}, 2, 7, admin, false},
		{"one entry allows and denies, allowed", list{{User: 3, Allow: 6, Deny: 9}}, 2, 3, search, true},
		{"one entry allows and denies, denied", list{{User: 3, Allow: 6, Deny: 9}}, 3, 3, admin, false},
		{"an entry with several permissions", list{allow(1, 11)}, 2, 1, admin, true},
		{"a permission that the entry lacks", list{allow(1, 11)}, 2, 1, search, false},

		{"everyone before a user", list{allow(all, read), deny(3, read)}, 2, 3, read, true},
		{"everyone after a user", list{deny(3, read), allow(all, read)}, 2, 3, read, false},
		{"everyone after another user", list{deny(3, read), allow(all, read)}, 2, 4, read, true},
		{"everyone denied before a user", list{deny(all, read), allow(3, read)}, 2, 3, read, false},
		{"everyone denied after a user", list{allow(3, read), deny(all, read)}, 2, 3, read, true},
		{"everyone denied after the owner", list{allow(2, read), deny(all, read)}, 2, 2, read, true},
		{"the first of two for a user", list{allow(3, read), deny(3, read)}, 2, 3, read, true},
		{"the first of two denies", list{deny(3, read), allow(3, read)}, 2, 3, read, false},
		{"first for another permission", list{deny(3, write), allow(3, read)}, 2, 3, read, true},
		{"first for another user", list{deny(4, read), allow(3, read)}, 2, 3, read, true},
		{"the last of six decides", append(full()[:5], allow(7, write)), 2, 7, write, true},
		{"the last of six denies", full(), 3, 3, read, false},
	}
	for _, c := range cases {
		ok, fault := acl.Allowed(c.l, c.owner, c.user, c.perm)
		if ok != c.want || fault != success {
			t.Errorf("%s: Allowed = %v, %v, want %v", c.about, ok, fault, c.want)
		}
	}
}

// TestAllowedErrors checks the errors of R2.2 beside those of the list.
func TestAllowedErrors(t *testing.T) {
	for _, l := range []list{nil, full(), {allow(all, 15)}} {
		for _, id := range notUsers {
			for _, c := range [][3]int{{id, 0, read}, {id, 1, read}, {1, id, read}, {id, id, admin}, {id, 0, 0}, {1, id, 3}} {
				if ok, fault := acl.Allowed(l, c[0], c[1], c[2]); ok || fault != outOfRange(-1) {
					t.Errorf("Allowed(%v, %d, %d, %d) = %v, %v", l, c[0], c[1], c[2], ok, fault)
				}
			}
		}
		for _, perm := range notPermissions {
			for user := 0; user <= api.MaxUser; user++ {
				if ok, fault := acl.Allowed(l, 2, user, perm); ok || fault != outOfRange(-1) {
					t.Errorf("Allowed(%v, 2, %d, %d) = %v, %v", l, user, perm, ok, fault)
				}
			}
		}
	}
}

// TestAllowedRange checks that all users and permissions are valid arguments.
func TestAllowedRange(t *testing.T) {
	for owner := 0; owner <= api.MaxUser; owner++ {
		for user := 0; user <= api.MaxUser; user++ {
			for _, perm := range []int{read, write, search, admin} {
				ok, fault := acl.Allowed(nil, owner, user, perm)
				if ok != (user == 0 || user == owner) || fault != success {
					t.Errorf("Allowed(nil, %d, %d, %d) = %v, %v", owner, user, perm, ok, fault)
				}
			}
		}
	}
}

// TestPermissions checks R2.3.
func TestPermissions(t *testing.T) {
	cases := []struct {
		about string
		l     list
		owner int
		want  []int
	}{
		{"no entries", nil, 2, []int{15, 0, 15, 0, 0, 0, 0, 0}},
		{"no entries, user 0's", nil, 0, []int{15, 0, 0, 0, 0, 0, 0, 0}},
		{"no entries, the last user's", nil, 7, []int{15, 0, 0, 0, 0, 0, 0, 15}},
		{"everyone allowed", list{allow(all, 5)}, 2, []int{15, 5, 15, 5, 5, 5, 5, 5}},
		{"everyone denied", list{deny(all, 5)}, 2, []int{15, 0, 10, 0, 0, 0, 0, 0}},
		{"everyone denied everything", list{deny(all, 15)}, 2, []int{15, 0, 0, 0, 0, 0, 0, 0}},
		{"user 0 denied", list{deny(0, 15)}, 1, []int{15, 15, 0, 0, 0, 0, 0, 0}},
		{"one user", list{{User: 3, Allow: 3, Deny: 4}}, 3, []int{15, 0, 0, 11, 0, 0, 0, 0}},
		{"a user before everyone", list{deny(4, 9), allow(all, 3)}, 6, []int{15, 3, 3, 3, 2, 3, 15, 3}},
		{"a user after everyone", list{allow(all, 3), deny(4, 9)}, 4, []int{15, 3, 3, 3, 7, 3, 3, 3}},
		{"six entries", full(), 5, []int{15, 5, 4, 4, 4, 4, 4, 4}},
	}
	for _, c := range cases {
		sets, fault := acl.Permissions(c.l, c.owner)
		if !slices.Equal(sets, c.want) || fault != success {
			t.Errorf("%s: Permissions = %v, %v, want %v", c.about, sets, fault, c.want)
		}
	}
}

// TestPermissionsErrors checks the errors of R2.3 beside those of the list.
func TestPermissionsErrors(t *testing.T) {
	for _, l := range []list{nil, full()} {
		for _, owner := range notUsers {
			if sets, fault := acl.Permissions(l, owner); len(sets) != 0 || fault != outOfRange(-1) {
				t.Errorf("Permissions(%v, %d) = %v, %v", l, owner, sets, fault)
			}
		}
	}
}

// TestSimplify checks R2.4.
func TestSimplify(t *testing.T) {
	everyUser := list{deny(1, read), deny(2, read), deny(3, read), deny(4, read), deny(5, read)}
	cases := []struct {
		about   string
		l, want list
	}{
		{"no entries", nil, nil},
		{"a single entry", list{allow(all, 15)}, list{allow(all, 15)}},
		{"everyone before a user", list{allow(all, read), deny(2, read)}, list{allow(all, read)}},
		{"everyone after a user", list{deny(2, read), allow(all, read)}, list{deny(2, read), allow(all, read)}},
		{"the same user twice", list{deny(2, read), allow(2, read)}, list{deny(2, read)}},
		{"everyone twice", list{deny(all, read), allow(all, read)}, list{deny(all, read)}},
		{"the same entry six times", slices.Repeat(list{allow(7, 6)}, 6), list{allow(7, 6)}},
		{"two users", list{deny(2, read), allow(3, read)}, list{deny(2, read), allow(3, read)}},
		{"two permissions", list{deny(2, read), allow(2, write)}, list{deny(2, read), allow(2, write)}},
		{"user 7 and user 1", list{allow(7, 1), allow(1, 1), deny(7, 1), deny(1, 1)}, list{allow(7, 1), allow(1, 1)}},

		{"allowed permissions partly lost", list{deny(2, 5), allow(2, 15)}, list{deny(2, 5), allow(2, 10)}},
		{"denied permissions partly lost", list{allow(2, 5), deny(2, 15)}, list{allow(2, 5), deny(2, 10)}},
		{"both partly lost", list{{User: all, Allow: 1, Deny: 8}, {User: 4, Allow: 10, Deny: 5}}, list{{User: all, Allow: 1, Deny: 8}, {User: 4, Allow: 2, Deny: 4}}},
		{"only Deny left", list{deny(all, 3), {User: 4, Allow: 3, Deny: 4}}, list{deny(all, 3), deny(4, 4)}},
		{"only Allow left", list{allow(all, 3), {User: 4, Allow: 4, Deny: 3}}, list{allow(all, 3), allow(4, 4)}},
		{"both lost", list{{User: all, Allow: 3, Deny: 12}, {User: 4, Allow: 12, Deny: 3}}, list{{User: all, Allow: 3, Deny: 12}}},
		{"lost to two entries", list{allow(all, 1), deny(4, 2), allow(4, 7)}, list{allow(all, 1), deny(4, 2), allow(4, 4)}},
		{"lost to a later entry's predecessor", list{allow(4, 1), allow(4, 3), allow(4, 7)}, list{allow(4, 1), allow(4, 2), allow(4, 4)}},

		{"an entry for user 0", list{allow(0, 15)}, nil},
		{"a denial for user 0", list{deny(0, read)}, nil},
		{"user 0 between others", list{deny(1, read), deny(0, 15), allow(1, write)}, list{deny(1, read), allow(1, write)}},
		{"user 0 before everyone", list{deny(0, read), allow(all, read)}, list{allow(all, read)}},
		{"five users before everyone", append(everyUser, allow(all, read)), append(everyUser, allow(all, read))},
		{"nothing lost", full()[:4], full()[:4]},
		{"a full list", full(), list{allow(1, read), deny(2, write), allow(all, search), deny(7, admin), deny(all, 11)}},
	}
	for _, c := range cases {
		got, fault := acl.Simplify(c.l)
		if !slices.Equal(got, c.want) || fault != success {
			t.Errorf("%s: Simplify(%v) = %v, %v, want %v", c.about, c.l, got, fault, c.want)
		}
	}
}
