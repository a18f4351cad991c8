package acl_test

import (
	"fmt"
	"math"
	"slices"
	"strings"
	"sync"
	"testing"

	"farshelf/acl"
	"farshelf/api"
)

// strangeNumbers are numbers at and beyond the limits.
var strangeNumbers = []int{math.MinInt, math.MinInt + 1, -16, -2, -1, 0, 1, 3, 7, 8, 15, 16, 1 << 32, math.MaxInt - 1, math.MaxInt}

// describe returns the results of all functions, or the panic of one of them.
func describe(l list, owner, user, perm int) (text string) {
	defer func() {
		if e := recover(); e != nil {
			text = fmt.Sprint("panic: ", e)
		}
	}()
	f1 := acl.Validate(l)
	ok, f2 := acl.Allowed(l, owner, user, perm)
	sets, f3 := acl.Permissions(l, owner)
	simple, f4 := acl.Simplify(l)
	return fmt.Sprint(f1, ok, f2, sets, f3, simple, f4)
}

// TestTotality checks Z1 and Z7: no argument makes a function panic, and
// extreme numbers are errors and not taken for valid ones.
func TestTotality(t *testing.T) {
	for _, a := range strangeNumbers {
		for _, b := range strangeNumbers {
			for _, c := range strangeNumbers {
				l := list{{User: a, Allow: b, Deny: c}}
				for _, text := range []string{describe(l, a, b, c), describe(nil, a, b, c), describe(full(), a, b, c)} {
					if strings.HasPrefix(text, "panic") {
						t.Errorf("%d, %d, %d: %s", a, b, c, text)
					}
				}
				if got, want := acl.Validate(l), modelStrange(a, b, c); got != want {
					t.Errorf("Validate(%v) = %v, want %v", l, got, want)
				}
			}
		}
	}
	describe(make(list, 1<<20), 1, 1, 1)
}

// modelStrange is the fault of one entry, without any arithmetic.
func modelStrange(user, allowed, denied int) api.Fault {
	valid := func(bits int) bool { return bits >= 0 && bits <= 15 }
	switch {
	case user < -1 || user > 7:
		return outOfRange(0)
	case !valid(allowed) || !valid(denied) || allowed&denied != 0 || allowed == 0 && denied == 0:
		return malformed(0)
	}
	return success
}

// TestZeroResults checks Z2: with a fault, the other result is zero, and
// without one the fault has no index either.
func TestZeroResults(t *testing.T) {
	for _, l := range mixedLists(1000, true) {
		for _, id := range []int{-1, 0, 7, 8} {
			ok, fault := acl.Allowed(l, 1, id, read)
			if fault.Code != api.OK && ok || fault.Code == api.OK && fault.Index != 0 {
				t.Errorf("Allowed(%v, 1, %d, 1) = %v, %v", l, id, ok, fault)
			}
			sets, fault := acl.Permissions(l, id)
			if (fault.Code != api.OK) != (len(sets) == 0) || fault.Code == api.OK && fault.Index != 0 {
				t.Errorf("Permissions(%v, %d) = %v, %v", l, id, sets, fault)
			}
		}
		simple, fault := acl.Simplify(l)
		if fault.Code != api.OK && len(simple) != 0 || fault.Code == api.OK && fault.Index != 0 {
			t.Errorf("Simplify(%v) = %v, %v", l, simple, fault)
		}
	}
}

// TestArgumentsStay checks Z4: neither a list nor its spare capacity is
// modified.
func TestArgumentsStay(t *testing.T) {
	for _, l := range append(mixedLists(1000, true), full(), list{allow(0, 15), allow(all, 1), deny(2, 3)}) {
		spare := list{{User: 3, Allow: 4}, {User: -9, Deny: -9}, {User: 5, Deny: 8}}
		whole := slices.Concat(l, spare)
		before := slices.Clone(whole)
		describe(whole[:len(l)], 2, 1, read)
		if !slices.Equal(whole, before) {
			t.Errorf("%v became %v", before, whole)
		}
	}
}

// TestSimplifyIsSeparate checks Z4: the result of Simplify and its argument
// share no memory.
func TestSimplifyIsSeparate(t *testing.T) {
	l := list{allow(1, read), deny(2, write), allow(all, search)}
	original := slices.Clone(l)
	first, _ := acl.Simplify(l)
	second, _ := acl.Simplify(l)
	for i := range first {
		first[i] = deny(7, 15)
	}
	_ = append(first[:1], deny(6, 15), deny(6, 15), deny(6, 15))
	if !slices.Equal(l, original) || !slices.Equal(second, original) {
		t.Errorf("after a change of a result the argument is %v and another result %v", l, second)
	}
	l[0] = deny(5, 15)
	if !slices.Equal(second, original) {
		t.Errorf("after a change of the argument the result is %v", second)
	}
}

// TestPermissionsAreSeparate checks Z4: a caller that changes one result
// changes no other one.
func TestPermissionsAreSeparate(t *testing.T) {
	want := []int{15, 0, 15, 0, 0, 0, 0, 0}
	first, _ := acl.Permissions(nil, 2)
	second, _ := acl.Permissions(nil, 2)
	for i := range first {
		first[i] = -1
	}
	third, _ := acl.Permissions(nil, 2)
	if !slices.Equal(second, want) || !slices.Equal(third, want) {
		t.Errorf("results are %v and %v after a change of the first", second, third)
	}
}

// TestDeterminism checks Z5: a call returns the same whatever was called
// before it or is called at the same time.
func TestDeterminism(t *testing.T) {
	whole := mixedLists(300, true)
	want := make([]string, len(whole))
	for i, l := range whole {
		want[i] = describe(l, 3, 4, write)
	}
	var group sync.WaitGroup
	for worker := range 4 {
		group.Go(func() {
			for k := range whole {
				i := (len(whole) - k + worker*7) % len(whole)
				if got := describe(whole[i], 3, 4, write); got != want[i] {
					t.Errorf("%v: %s, then %s", whole[i], want[i], got)
				}
			}
		})
	}
	group.Wait()
}

// TestEmptyLists checks Z6: nil and empty lists are equivalent.
func TestEmptyLists(t *testing.T) {
	want := describe(nil, 2, 2, read)
	for _, l := range []list{{}, make(list, 0, 8), full()[:0]} {
		if got := describe(l, 2, 2, read); got != want {
			t.Errorf("an empty list: %s, want %s", got, want)
		}
	}
	if fault := acl.Validate(list{}); fault != success {
		t.Errorf("Validate of an empty list: %v", fault)
	}
}
