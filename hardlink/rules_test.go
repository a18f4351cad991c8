package hardlink_test

import (
	"fmt"
	"math"
	"reflect"
	"slices"
	"strings"
	"sync"
	"testing"

	"farshelf/api"
	"farshelf/hardlink"
)

// cloneTree returns a tree that shares no memory with t.
func cloneTree(t api.Tree) api.Tree {
	clone := api.Tree{Inodes: slices.Clone(t.Inodes)}
	for i := range clone.Inodes {
		inode := &clone.Inodes[i]
		inode.Entries, inode.Data = slices.Clone(inode.Entries), slices.Clone(inode.Data)
		inode.ACL, inode.Attrs = slices.Clone(inode.ACL), slices.Clone(inode.Attrs)
	}
	return clone
}

// describe returns the results of all functions, or the panic of one of them.
func describe(t api.Tree, a, b string) (all string) {
	defer func() {
		if e := recover(); e != nil {
			all = fmt.Sprint("panic: ", e)
		}
	}()
	counts, f1 := hardlink.Counts(t)
	ok, f2 := hardlink.SameFile(t, a, b)
	groups, f3 := hardlink.Groups(t)
	return fmt.Sprintf("%v %v %v %v %q %v", counts, f1, ok, f2, groups, f3)
}

// strangePaths are strings that no caller should pass as a path, among some
// that one may.
func strangePaths() []string {
	return []string{
		"", "/", "//", ".", "..", "/..", "a", "/a", "/a/f", "/a/f/", "\x00", "/\x00", "/\xff\xfe", "/%s", "/~", "/*", "/\u00e9", "/\u2028",
		longest, longest + "n", deepest, deepest + "/a", strings.Repeat("/", 100), strings.Repeat("/", 1<<20), strings.Repeat("/a", 1<<19), "/" + strings.Repeat("a", 1<<20),
	}
}

// strangeTrees are trees that no caller should pass.
func strangeTrees() []api.Tree {
	trees := []api.Tree{{}, {Inodes: make([]api.Inode, 1<<16)}, tree(dir("", 1, "", 1), file(1)), tree(dir("/", 1, "\xff", 1), file(1))}
	numbers := []int{math.MinInt, -1, 0, 1, 2, 39, 40, math.MaxInt}
	for _, kind := range numbers {
		for _, number := range numbers {
			inode := api.Inode{Kind: kind, Entries: dir("a", number, "b", number).Entries}
			other := api.Inode{Kind: kind, Owner: number, Quota: number, Version: number}
			trees = append(trees, tree(inode), tree(dir("a", 1, "b", 1), inode), tree(inode, inode), tree(dir("a", number, "b", number)), tree(other), tree(dir("a", 1, "b", 1), other))
		}
	}
	ring := tree(dir())
	for i := range api.MaxInodes - 1 {
		ring.Inodes = append(ring.Inodes, dir("d", 1+(i+1)%(api.MaxInodes-1)))
	}
	trees = append(trees, ring,
		api.Tree{Inodes: slices.Repeat([]api.Inode{dir("a", 1, "b", 2)}, 40)},
		api.Tree{Inodes: slices.Repeat([]api.Inode{wide(16, 1)}, 40)},
		tree(wide(1<<16, 1), file(1)),
	)
	for _, c := range invalidTrees() {
		trees = append(trees, c.tree)
	}
	return trees
}

// TestTotality checks Z1: no argument makes a function panic or go on without
// an end.
func TestTotality(t *testing.T) {
	check := func(tested api.Tree, a, b string) {
		t.Helper()
		if text := describe(tested, a, b); strings.HasPrefix(text, "panic") {
			t.Errorf("%.200s, %.40q, %.40q: %s", fmt.Sprint(tested), a, b, text)
		}
	}
	for _, tested := range strangeTrees() {
		for _, p := range []string{"/", "/a", "/a/b", "x"} {
			check(tested, p, "/b")
			check(tested, "/b", p)
		}
	}
	for _, a := range strangePaths() {
		for _, b := range strangePaths() {
			check(small(), a, b)
			check(api.Tree{}, a, b)
		}
	}
	check(crowded(), "/", "/d01")
}

// TestZeroResults checks Z2: with a fault, the other result is zero, and
// without one the fault has no index either.
func TestZeroResults(t *testing.T) {
	check := func(got api.Fault, zero bool, call string) {
		t.Helper()
		if got.Code != api.OK && !zero || got.Code == api.OK && got.Index != 0 {
			t.Errorf("%s with %v", call, got)
		}
	}
	for _, tested := range slices.Concat(strangeTrees(), grownTrees(300, true), []api.Tree{small(), linked(), crowded()}) {
		counts, got := hardlink.Counts(tested)
		check(got, len(counts) == 0, "Counts")
		groups, got := hardlink.Groups(tested)
		check(got, len(groups) == 0, "Groups")
		for _, p := range strangePaths() {
			ok, got := hardlink.SameFile(tested, p, p)
			check(got, !ok, "SameFile")
			ok, got = hardlink.SameFile(tested, "/", p)
			check(got, !ok, "SameFile")
		}
	}
}

// roomy returns t with spare capacity behind all its lists.
func roomy(t api.Tree) api.Tree {
	clone := api.Tree{Inodes: append(slices.Clone(t.Inodes), file(3), dir("spare", 1))[:len(t.Inodes)]}
	for i := range clone.Inodes {
		inode := &clone.Inodes[i]
		inode.Entries = append(slices.Clone(inode.Entries), dir("spare", 1, "a", 0).Entries...)[:len(inode.Entries)]
		inode.Data = append(slices.Clone(inode.Data), 7, 7)[:len(inode.Data)]
		inode.ACL = append(slices.Clone(inode.ACL), api.ACLEntry{User: 5})[:len(inode.ACL)]
		inode.Attrs = append(slices.Clone(inode.Attrs), api.Attr{Name: "spare"})[:len(inode.Attrs)]
	}
	return clone
}

// whole returns t with the spare capacity of its lists as a part of them.
func whole(t api.Tree) api.Tree {
	clone := api.Tree{Inodes: slices.Clone(t.Inodes[:cap(t.Inodes)])}
	for i := range clone.Inodes {
		inode := &clone.Inodes[i]
		inode.Entries, inode.Data = inode.Entries[:cap(inode.Entries)], inode.Data[:cap(inode.Data)]
		inode.ACL, inode.Attrs = inode.ACL[:cap(inode.ACL)], inode.Attrs[:cap(inode.Attrs)]
	}
	return clone
}

// TestArgumentsStay checks Z4: neither a tree nor the spare capacity of its
// lists is modified.
func TestArgumentsStay(t *testing.T) {
	for _, tested := range slices.Concat(grownTrees(300, false), grownTrees(300, true), []api.Tree{small(), linked(), crowded(), tree()}) {
		argument := roomy(tested)
		before := cloneTree(whole(argument))
		for _, p := range []string{"/", "/a", "/a/f", "/x/y", "//"} {
			describe(argument, p, "/b")
		}
		if after := whole(argument); !reflect.DeepEqual(cloneTree(after), before) {
			t.Errorf("%v became %v", before, after)
		}
	}
}

// TestCountsAreSeparate checks Z4: a caller that changes the result of Counts,
// or its spare capacity, changes no other one.
func TestCountsAreSeparate(t *testing.T) {
	tested := small()
	call := func() []int { counts, _ := hardlink.Counts(tested); return counts }
	want := slices.Clone(call())
	first, second := call(), call()
	for k := range first[:cap(first)] {
		first[:cap(first)][k] = 77
	}
	if third := call(); !slices.Equal(second, want) || !slices.Equal(third, want) {
		t.Errorf("%v and %v after a change of the first result, want %v", second, third, want)
	}
}

// TestGroupsAreSeparate checks Z4: a caller that changes a list of the result of
// Groups, or its spare capacity, changes no other list and no other result.
func TestGroupsAreSeparate(t *testing.T) {
	tested := treeOf("/z /y /x", "/c /d", "/b /a /e /f /g", "/h", "/i /j")
	call := func() [][]string { groups, _ := hardlink.Groups(tested); return groups }
	clone := func(groups [][]string) (all [][]string) {
		for _, group := range groups {
			all = append(all, slices.Clone(group))
		}
		return all
	}
	want := clone(call())
	for i := range want {
		first, second := call(), call()
		group := first[i]
		for k := range group[:cap(group)] {
			group[:cap(group)][k] = "spoilt"
		}
		first[i] = want[i]
		if !reflect.DeepEqual(first, want) {
			t.Errorf("%q after a change of list %d, want %q", first, i, want)
		}
		clear(first[:cap(first)])
		if third := call(); !reflect.DeepEqual(second, want) || !reflect.DeepEqual(third, want) {
			t.Errorf("%q and %q after a change of the first result, want %q", second, third, want)
		}
	}
	compareGroups(t, tested, "/a /b /e /f /g", "/c /d", "/i /j", "/x /y /z")
}

// TestDeterminism checks Z5: a call returns the same whatever was called before
// it or is called at the same time.
func TestDeterminism(t *testing.T) {
	trees := append(grownTrees(300, false), grownTrees(300, true)...)
	call := func(i int) string { return describe(trees[i], "/a", "/a/b") }
	want := make([]string, len(trees))
	for i := range trees {
		want[i] = call(i)
	}
	var group sync.WaitGroup
	for worker := range 4 {
		group.Go(func() {
			for k := range trees {
				i := (len(trees) - 1 - k + worker*7) % len(trees)
				if got := call(i); got != want[i] {
					t.Errorf("%v: %s, then %s", trees[i], want[i], got)
				}
			}
		})
	}
	group.Wait()
}

// TestEmptyLists checks Z6: nil and empty lists are equivalent.
func TestEmptyLists(t *testing.T) {
	if got, want := describe(api.Tree{Inodes: []api.Inode{}}, "/", "/"), describe(api.Tree{}, "/", "/"); got != want {
		t.Errorf("an empty tree: %s, want %s", got, want)
	}
	for _, tested := range append(grownTrees(300, false), grownTrees(300, true)...) {
		empty := cloneTree(tested)
		for n := range empty.Inodes {
			inode := &empty.Inodes[n]
			inode.Entries = append(make([]api.DirEntry, 0, 8), inode.Entries...)
			inode.Data = append(make([]byte, 0, 8), inode.Data...)
			inode.ACL = append(make([]api.ACLEntry, 0, 8), inode.ACL...)
			inode.Attrs = append(make([]api.Attr, 0, 8), inode.Attrs...)
		}
		for _, p := range []string{"/", "/a", "/a/b"} {
			if got, want := describe(empty, p, "/b"), describe(tested, p, "/b"); got != want {
				t.Errorf("%v: %s, want %s", tested, got, want)
			}
		}
	}
}
