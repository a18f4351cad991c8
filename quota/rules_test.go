package quota_test

import (
	"fmt"
	"math"
	"reflect"
	"slices"
	"strings"
	"sync"
	"testing"

	"farshelf/api"
	"farshelf/quota"
)

// cloneTree returns a tree that shares no memory with t.
func cloneTree(t api.Tree) api.Tree {
	clone := api.Tree{Inodes: slices.Clone(t.Inodes)}
	for i := range clone.Inodes {
		inode := &clone.Inodes[i]
		inode.Entries, inode.Data = slices.Clone(inode.Entries), slices.Clone(inode.Data)
		inode.ACL, inode.Attrs = slices.Clone(inode.ACL), slices.Clone(inode.Attrs)
	}
	return clone
}

// describe returns the results of all functions, or the panic of one of them.
func describe(t api.Tree, n, size int) (all string) {
	defer func() {
		if e := recover(); e != nil {
			all = fmt.Sprint("panic: ", e)
		}
	}()
	usages, f1 := quota.Usage(t)
	exceeded, f2 := quota.Exceeded(t, n, size)
	remaining, f3 := quota.Remaining(t, n)
	totals, f4 := quota.ByOwner(t)
	return fmt.Sprint(usages, f1, exceeded, f2, remaining, f3, totals, f4)
}

// strangeNumbers are numbers that no caller should pass, among some that one
// may.
var strangeNumbers = [...]int{math.MinInt, math.MinInt + 1, -1 << 32, -201, -1, 0, 1, 2, 3, 5, 39, 40, 41, 199, 200, 201, 1 << 32, math.MaxInt - 1, math.MaxInt}

// strangeTrees are trees that no caller should pass.
func strangeTrees() []api.Tree {
	trees := []api.Tree{{}, {Inodes: make([]api.Inode, 1<<16)}, tree(dir(0, "", 1, "", 1), file(1)), tree(dir(0, "/", 1, "\xff", 1), file(1))}
	numbers := []int{math.MinInt, -1, 0, 1, 2, 8, 40, math.MaxInt}
	for _, kind := range numbers {
		for _, number := range numbers {
			inode := api.Inode{Kind: kind, Entries: dir(0, "a", number, "b", number).Entries}
			other := api.Inode{Kind: kind, Owner: number, Quota: number, Version: number, Data: []byte{1}}
			trees = append(trees,
				tree(inode), tree(dir(9, "a", 1, "b", 1), inode), tree(inode, inode), tree(dir(9, "a", number, "b", number)),
				tree(other), tree(dir(9, "a", 1, "b", 1), other), tree(dir(number, "a", 1), owned(number, file(3))),
			)
		}
	}
	ring := tree(dir(1))
	for i := range api.MaxInodes - 1 {
		ring.Inodes = append(ring.Inodes, dir(1, "d", 1+(i+1)%(api.MaxInodes-1)))
	}
	trees = append(trees, ring,
		api.Tree{Inodes: slices.Repeat([]api.Inode{dir(1, "a", 1, "b", 2)}, 40)},
		api.Tree{Inodes: slices.Repeat([]api.Inode{wide(1, 16, 1)}, 40)},
		tree(wide(1, 1<<16, 1), file(1)),
		tree(dir(1, "f", 1), file(1<<20)),
	)
	for _, c := range invalidTrees() {
		trees = append(trees, c.tree)
	}
	return trees
}

// TestTotality checks Z1: no argument makes a function panic or go on without
// an end.
func TestTotality(t *testing.T) {
	check := func(tested api.Tree, n, size int) {
		t.Helper()
		if text := describe(tested, n, size); strings.HasPrefix(text, "panic") {
			t.Errorf("%.200s, %d, %d: %s", fmt.Sprint(tested), n, size, text)
		}
	}
	for _, tested := range strangeTrees() {
		for _, n := range strangeNumbers {
			check(tested, n, 1)
			check(tested, 1, n)
		}
	}
	for _, tested := range fixtures() {
		for _, n := range strangeNumbers {
			for _, size := range strangeNumbers {
				check(tested, n, size)
			}
		}
	}
}

// TestZeroResults checks Z2: with a fault, the other result is zero, and
// without one the fault has no index either.
func TestZeroResults(t *testing.T) {
	check := func(got api.Fault, zero bool, call string) {
		t.Helper()
		if got.Code != api.OK && !zero || got.Code == api.OK && got.Index != 0 {
			t.Errorf("%s with %v", call, got)
		}
	}
	for _, tested := range slices.Concat(strangeTrees(), grownTrees(300, true), fixtures()) {
		usages, got := quota.Usage(tested)
		check(got, len(usages) == 0, "Usage")
		totals, got := quota.ByOwner(tested)
		check(got, len(totals) == 0, "ByOwner")
		for _, n := range strangeNumbers {
			remaining, got := quota.Remaining(tested, n)
			check(got, remaining == 0, "Remaining")
			for _, size := range []int{-1, 0, 3, 200, 201} {
				exceeded, got := quota.Exceeded(tested, n, size)
				check(got, len(exceeded) == 0, "Exceeded")
			}
		}
	}
}

// roomy returns t with spare capacity behind all its lists.
func roomy(t api.Tree) api.Tree {
	clone := api.Tree{Inodes: append(slices.Clone(t.Inodes), file(3), dir(1, "spare", 1))[:len(t.Inodes)]}
	for i := range clone.Inodes {
		inode := &clone.Inodes[i]
		inode.Entries = append(slices.Clone(inode.Entries), dir(0, "spare", 1, "a", 0).Entries...)[:len(inode.Entries)]
		inode.Data = append(slices.Clone(inode.Data), 7, 7)[:len(inode.Data)]
		inode.ACL = append(slices.Clone(inode.ACL), api.ACLEntry{User: 5})[:len(inode.ACL)]
		inode.Attrs = append(slices.Clone(inode.Attrs), api.Attr{Name: "spare"})[:len(inode.Attrs)]
	}
	return clone
}

// whole returns t with the spare capacity of its lists as a part of them.
func whole(t api.Tree) api.Tree {
	clone := api.Tree{Inodes: slices.Clone(t.Inodes[:cap(t.Inodes)])}
	for i := range clone.Inodes {
		inode := &clone.Inodes[i]
		inode.Entries, inode.Data = inode.Entries[:cap(inode.Entries)], inode.Data[:cap(inode.Data)]
		inode.ACL, inode.Attrs = inode.ACL[:cap(inode.ACL)], inode.Attrs[:cap(inode.Attrs)]
	}
	return clone
}

// TestArgumentsStay checks Z4: neither a tree nor the spare capacity of its
// lists is modified.
func TestArgumentsStay(t *testing.T) {
	for _, tested := range slices.Concat(grownTrees(300, false), grownTrees(300, true), fixtures(), []api.Tree{tree()}) {
		argument := roomy(tested)
		before := cloneTree(whole(argument))
		for n := range len(tested.Inodes) + 1 {
			describe(argument, n, 0)
			describe(argument, n, 100)
		}
		if after := whole(argument); !reflect.DeepEqual(cloneTree(after), before) {
			t.Errorf("%v became %v", before, after)
		}
	}
}

// TestResultsAreSeparate checks Z4: a caller that changes the list of a result,
// or its spare capacity, changes no other one.
func TestResultsAreSeparate(t *testing.T) {
	tested := nested()
	calls := []func() []int{
		func() []int { usages, _ := quota.Usage(tested); return usages },
		func() []int { exceeded, _ := quota.Exceeded(tested, 4, 100); return exceeded },
		func() []int { totals, _ := quota.ByOwner(tested); return totals },
	}
	for i, call := range calls {
		want := slices.Clone(call())
		first, second := call(), call()
		for k := range first[:cap(first)] {
			first[:cap(first)][k] = 77
		}
		if third := call(); len(want) == 0 || !slices.Equal(second, want) || !slices.Equal(third, want) {
			t.Errorf("call %d: %v and %v after a change of the first result, want %v", i, second, third, want)
		}
	}
}

// TestDeterminism checks Z5: a call returns the same whatever was called before
// it or is called at the same time.
func TestDeterminism(t *testing.T) {
	trees := slices.Concat(grownTrees(300, false), grownTrees(300, true), fixtures())
	call := func(i int) string { return describe(trees[i], i%20, i%40) }
	want := make([]string, len(trees))
	for i := range trees {
		want[i] = call(i)
	}
	var group sync.WaitGroup
	for worker := range 4 {
		group.Go(func() {
			for k := range trees {
				i := (len(trees) - 1 - k + worker*7) % len(trees)
				if got := call(i); got != want[i] {
					t.Errorf("%v: %s, then %s", trees[i], want[i], got)
				}
			}
		})
	}
	group.Wait()
}

// TestEmptyLists checks Z6: nil and empty lists are equivalent.
func TestEmptyLists(t *testing.T) {
	if got, want := describe(api.Tree{Inodes: []api.Inode{}}, 0, 0), describe(api.Tree{}, 0, 0); got != want {
		t.Errorf("an empty tree: %s, want %s", got, want)
	}
	for _, tested := range slices.Concat(grownTrees(300, false), grownTrees(300, true), fixtures()) {
		empty := cloneTree(tested)
		for n := range empty.Inodes {
			inode := &empty.Inodes[n]
			inode.Entries = append(make([]api.DirEntry, 0, 8), inode.Entries...)
			inode.Data = append(make([]byte, 0, 8), inode.Data...)
			inode.ACL = append(make([]api.ACLEntry, 0, 8), inode.ACL...)
			inode.Attrs = append(make([]api.Attr, 0, 8), inode.Attrs...)
		}
		for n := range len(tested.Inodes) + 1 {
			if got, want := describe(empty, n, 20), describe(tested, n, 20); got != want {
				t.Errorf("%v: %s, want %s", tested, got, want)
			}
		}
	}
}
