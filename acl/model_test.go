package acl_test

import (
	"math/rand/v2"
	"slices"
	"testing"

	"farshelf/acl"
	"farshelf/api"
)

// The models follow the definitions of the document in another way than the
// package: they go through the entries once, with sets of permissions that are
// still undecided.

func modelValidate(l list) api.Fault {
	if len(l) > 6 {
		return tooMany
	}
	for i, e := range l {
		if !slices.Contains([]int{-1, 0, 1, 2, 3, 4, 5, 6, 7}, e.User) {
			return outOfRange(i)
		}
		if e.Allow < 0 || e.Allow > 15 || e.Deny < 0 || e.Deny > 15 || e.Allow+e.Deny != e.Allow^e.Deny || e.Allow+e.Deny == 0 {
			return malformed(i)
		}
	}
	return success
}

// modelSet returns the permissions of a user.
func modelSet(l list, owner, user int) int {
	if user == 0 {
		return 15
	}
	set, undecided := 0, 15
	for _, e := range l {
		if e.User == -1 || e.User == user {
			set |= e.Allow & undecided
			undecided &= 15 - e.Allow - e.Deny
		}
	}
	if user == owner {
		set |= undecided
	}
	return set
}

func modelPermissions(l list, owner int) []int {
	var sets []int
	for user := range 8 {
		sets = append(sets, modelSet(l, owner, user))
	}
	return sets
}

// modelSimplify keeps the bits that decide: those whose change from allowed to
// denied, or the reverse, takes a permission from a user or gives it to one.
func modelSimplify(l list) list {
	var remaining list
	for i, e := range l {
		kept := api.ACLEntry{User: e.User}
		for perm := 1; perm < 16; perm *= 2 {
			changed := slices.Clone(l)
			switch {
			case e.Allow&perm != 0:
				changed[i].Allow, changed[i].Deny = e.Allow-perm, e.Deny+perm
			case e.Deny&perm != 0:
				changed[i].Allow, changed[i].Deny = e.Allow+perm, e.Deny-perm
			}
			if !slices.Equal(modelPermissions(l, 0), modelPermissions(changed, 0)) {
				kept.Allow += e.Allow & perm
				kept.Deny += e.Deny & perm
			}
		}
		if kept.Allow+kept.Deny > 0 {
			remaining = append(remaining, kept)
		}
	}
	return remaining
}

// compare compares all functions with the models for one list.
func compare(t *testing.T, l list) {
	t.Helper()
	want := modelValidate(l)
	if fault := acl.Validate(l); fault != want {
		t.Errorf("Validate(%v) = %v, want %v", l, fault, want)
	}
	for owner := range 8 {
		compareOwner(t, l, owner)
	}
	if want != success {
		return
	}
	if got, fault := acl.Simplify(l); !slices.Equal(got, modelSimplify(l)) || fault != success {
		t.Errorf("Simplify(%v) = %v, %v, want %v", l, got, fault, modelSimplify(l))
	}
}

// compareOwner compares the functions that take an owner with the models.
func compareOwner(t *testing.T, l list, owner int) {
	t.Helper()
	want := modelValidate(l)
	var wantSets []int
	if want == success {
		wantSets = modelPermissions(l, owner)
	}
	if sets, fault := acl.Permissions(l, owner); !slices.Equal(sets, wantSets) || fault != want {
		t.Errorf("Permissions(%v, %d) = %v, %v, want %v, %v", l, owner, sets, fault, wantSets, want)
	}
	for user := range 8 {
		for perm := 1; perm < 16; perm *= 2 {
			wantOK := want == success && wantSets[user]&perm != 0
			if ok, fault := acl.Allowed(l, owner, user, perm); ok != wantOK || fault != want {
				t.Errorf("Allowed(%v, %d, %d, %d) = %v, %v, want %v, %v", l, owner, user, perm, ok, fault, wantOK, want)
			}
		}
	}
}

// TestEveryEntry compares all single entries in and around the valid range.
func TestEveryEntry(t *testing.T) {
	for user := -3; user <= 9; user++ {
		for allowed := -2; allowed <= 18; allowed++ {
			for denied := -2; denied <= 18; denied++ {
				compare(t, list{{User: user, Allow: allowed, Deny: denied}})
			}
		}
	}
}

// lists returns all lists of at most n of the given entries.
func lists(entries list, n int) []list {
	whole := []list{nil}
	for i := 0; len(whole[i]) < n; i++ {
		for _, e := range entries {
			whole = append(whole, append(slices.Clone(whole[i]), e))
		}
	}
	return whole
}

// critical are entries of two users and everyone for two permissions.
func critical() list {
	var entries list
	for _, user := range []int{-1, 0, 1, 7} {
		for _, bits := range [][2]int{{1, 0}, {0, 1}, {8, 0}, {9, 0}, {0, 9}, {8, 1}} {
			entries = append(entries, api.ACLEntry{User: user, Allow: bits[0], Deny: bits[1]})
		}
	}
	return entries
}

// TestShortLists compares all short lists of critical entries with the models.
func TestShortLists(t *testing.T) {
	for _, l := range lists(critical(), 2) {
		compare(t, l)
	}
	for _, l := range lists(list{allow(all, 1), deny(all, 3), deny(0, 1), allow(1, 3), {User: 1, Allow: 2, Deny: 1}}, 4) {
		compare(t, l)
	}
}

// mixedLists returns long lists, the same ones in each run; about one in ten
// entries is invalid if invalid is true.
func mixedLists(n int, invalid bool) []list {
	source := rand.New(rand.NewPCG(2, 1))
	whole := make([]list, n)
	for i := range whole {
		for range source.IntN(7) {
			user, allowed := source.IntN(9)-1, source.IntN(16)
			denied := source.IntN(16) &^ allowed
			if allowed+denied == 0 {
				denied = 1 << source.IntN(4)
			}
			if invalid && source.IntN(10) == 0 {
				user, allowed, denied = source.IntN(13)-3, source.IntN(20)-2, source.IntN(20)-2
			}
			whole[i] = append(whole[i], api.ACLEntry{User: user, Allow: allowed, Deny: denied})
		}
		if invalid && source.IntN(10) == 0 {
			whole[i] = append(whole[i], whole[i]...)
		}
	}
	return whole
}

// TestMixedLists compares long lists with the models.
func TestMixedLists(t *testing.T) {
	for _, l := range append(mixedLists(2000, false), mixedLists(2000, true)...) {
		compare(t, l)
	}
}

// TestSimplifyKeepsPermissions checks what R2.4 is for: the simplified list
// means the same, and there is nothing left to simplify.
func TestSimplifyKeepsPermissions(t *testing.T) {
	for _, l := range append(lists(critical(), 2), mixedLists(2000, false)...) {
		simple, fault := acl.Simplify(l)
		if fault != success {
			t.Fatalf("Simplify(%v): %v", l, fault)
		}
		for owner := range 8 {
			before, _ := acl.Permissions(l, owner)
			after, fault := acl.Permissions(simple, owner)
			if !slices.Equal(before, after) || fault != success {
				t.Errorf("Simplify(%v) = %v: permissions %v became %v, %v", l, simple, before, after, fault)
			}
		}
		if again, _ := acl.Simplify(simple); !slices.Equal(again, simple) {
			t.Errorf("Simplify(%v) = %v, and again %v", l, simple, again)
		}
	}
}
