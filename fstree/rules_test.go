package fstree_test

import (
	"fmt"
	"math"
	"reflect"
	"slices"
	"strings"
	"sync"
	"testing"

	"farshelf/api"
	"farshelf/fstree"
)

// describe returns the results of all functions, or the panic of one of them.
func describe(t api.Tree, p string, n int) (text string) {
	defer func() {
		if e := recover(); e != nil {
			text = fmt.Sprint("panic: ", e)
		}
	}()
	f1 := fstree.Validate(t)
	reached, f2 := fstree.Lookup(t, p)
	paths, f3 := fstree.PathsOf(t, n)
	all, f4 := fstree.AllPaths(t)
	return fmt.Sprintf("%v %d %v %q %v %q %v", f1, reached, f2, paths, f3, all, f4)
}

// strangePaths are strings that no caller should pass as a path, among some
// that one may.
func strangePaths() []string {
	return []string{"", "/", "//", ".", "..", "a", "/a", "/a/b/", "\x00", "/\xff\xfe", "/%s", "/~", "/*", strings.Repeat("/", 1<<20), strings.Repeat("/a", 9), "/" + strings.Repeat("a", 1<<20)}
}

// strangeInodes are inodes that no caller should pass.
func strangeInodes() []api.Inode {
	var inodes []api.Inode
	numbers := []int{math.MinInt, -1, 0, 1, 2, 39, 40, math.MaxInt}
	for _, kind := range numbers {
		for _, number := range numbers {
			inodes = append(inodes,
				api.Inode{Kind: kind, Owner: number},
				api.Inode{Kind: kind, Quota: number},
				api.Inode{Kind: kind, Version: number},
				api.Inode{Kind: kind, Entries: dir("a", number).Entries},
				api.Inode{Kind: kind, Entries: dir("\x00", number, "", 1).Entries},
				api.Inode{Kind: kind, ACL: []api.ACLEntry{{User: number, Allow: number, Deny: number}}},
				api.Inode{Kind: kind, Attrs: []api.Attr{{Name: "\xff", Value: "\xff"}}},
				api.Inode{Kind: kind, Data: make([]byte, 1<<16), ACL: make([]api.ACLEntry, 1<<10), Attrs: make([]api.Attr, 1<<10), Entries: make([]api.DirEntry, 1<<10)},
			)
		}
	}
	return inodes
}

// TestTotality checks Z1: no argument makes a function panic or go on without
// an end.
func TestTotality(t *testing.T) {
	check := func(tested api.Tree, p string, n int) {
		t.Helper()
		if text := describe(tested, p, n); strings.HasPrefix(text, "panic") {
			t.Errorf("%.200s, %.40q, %d: %s", fmt.Sprint(tested), p, n, text)
		}
	}
	for _, inode := range strangeInodes() {
		for n, tested := range []api.Tree{tree(inode), tree(dir("a", 1), inode), tree(dir("a", 2), inode, inode), tree(inode, inode, dir("b", 1))} {
			check(tested, "/a/b", n)
		}
	}
	for _, p := range strangePaths() {
		for _, n := range []int{math.MinInt, -1, 0, 7, math.MaxInt} {
			check(small(), p, n)
			check(api.Tree{}, p, n)
		}
	}
	check(tree(append([]api.Inode{dir()}, ring(39)...)...), "/d/d", 1)
	check(api.Tree{Inodes: slices.Repeat([]api.Inode{dir("a", 1, "b", 2)}, 40)}, "/a/b", 1)
	check(api.Tree{Inodes: slices.Repeat([]api.Inode{wide(16, 1)}, 40)}, "/a/b", 1)
	check(api.Tree{Inodes: make([]api.Inode, 1<<20)}, "/a", 1)
	for _, c := range invalidTrees() {
		check(c.tree, "/a/b", 1)
	}
}

// TestZeroResults checks Z2: with a fault, the other results are zero, and
// without one the fault has no index either.
func TestZeroResults(t *testing.T) {
	check := func(fault api.Fault, zero bool, call string) {
		t.Helper()
		if fault.Code != api.OK && !zero || fault.Code == api.OK && fault.Index != 0 {
			t.Errorf("%s with %v", call, fault)
		}
	}
	for _, tested := range append(mixedTrees(2000, true), small(), flat(40), flat(41)) {
		check(fstree.Validate(tested), true, "Validate")
		for _, p := range []string{"/", "/a", "/a/b", "/b/x/x", "/e01/e02", "/g/h/i", "/a/", "a"} {
			n, got := fstree.Lookup(tested, p)
			check(got, n == 0, "Lookup")
		}
		for n := -1; n < 6; n++ {
			paths, got := fstree.PathsOf(tested, n)
			check(got, len(paths) == 0, "PathsOf")
		}
		all, got := fstree.AllPaths(tested)
		check(got, len(all) == 0, "AllPaths")
	}
}

// roomy returns t with spare capacity behind all its lists.
func roomy(t api.Tree) api.Tree {
	clone := api.Tree{Inodes: append(slices.Clone(t.Inodes), file(3), dir("spare", 1))[:len(t.Inodes)]}
	for i := range clone.Inodes {
		inode := &clone.Inodes[i]
		inode.Entries = append(slices.Clone(inode.Entries), dir("spare", 1, "a", 0).Entries...)[:len(inode.Entries)]
		inode.Data = append(slices.Clone(inode.Data), 7, 7)[:len(inode.Data)]
		inode.ACL = append(slices.Clone(inode.ACL), api.ACLEntry{User: 5})[:len(inode.ACL)]
		inode.Attrs = append(slices.Clone(inode.Attrs), api.Attr{Name: "spare"})[:len(inode.Attrs)]
	}
	return clone
}

// whole returns t with the spare capacity of its lists as a part of them.
func whole(t api.Tree) api.Tree {
	clone := api.Tree{Inodes: slices.Clone(t.Inodes[:cap(t.Inodes)])}
	for i := range clone.Inodes {
		inode := &clone.Inodes[i]
		inode.Entries, inode.Data = inode.Entries[:cap(inode.Entries)], inode.Data[:cap(inode.Data)]
		inode.ACL, inode.Attrs = inode.ACL[:cap(inode.ACL)], inode.Attrs[:cap(inode.Attrs)]
	}
	return clone
}

// TestArgumentsStay checks Z4: neither a tree nor the spare capacity of its
// lists is modified.
func TestArgumentsStay(t *testing.T) {
	for _, tested := range append(mixedTrees(1000, true), small(), flat(40), flat(41), tree()) {
		argument := roomy(tested)
		before := cloneTree(whole(argument))
		for n, p := range []string{"/", "/a", "/a/d/h", "/x", "//"} {
			describe(argument, p, n)
		}
		if after := whole(argument); !reflect.DeepEqual(cloneTree(after), before) {
			t.Errorf("%v became %v", before, after)
		}
	}
}

// TestResultsAreSeparate checks Z4: a caller that changes a result changes no
// other one.
func TestResultsAreSeparate(t *testing.T) {
	calls := []func() []string{
		func() []string { paths, _ := fstree.PathsOf(small(), 5); return paths },
		func() []string { paths, _ := fstree.PathsOf(small(), 0); return paths },
		func() []string { paths, _ := fstree.AllPaths(small()); return paths },
	}
	for i, call := range calls {
		want := slices.Clone(call())
		first, second := call(), call()
		for k := range first[:cap(first)] {
			first[:cap(first)][k] = "spoilt"
		}
		if third := call(); len(want) == 0 || !slices.Equal(second, want) || !slices.Equal(third, want) {
			t.Errorf("call %d: %q and %q after a change of the first result, want %q", i, second, third, want)
		}
	}
}

// TestDeterminism checks Z5: a call returns the same whatever was called
// before it or is called at the same time.
func TestDeterminism(t *testing.T) {
	trees := append(mixedTrees(300, false), mixedTrees(300, true)...)
	call := func(i int) string { return describe(trees[i], "/a/b", i%7) }
	want := make([]string, len(trees))
	for i := range trees {
		want[i] = call(i)
	}
	var group sync.WaitGroup
	for worker := range 4 {
		group.Go(func() {
			for k := range trees {
				i := (len(trees) - 1 - k + worker*7) % len(trees)
				if got := call(i); got != want[i] {
					t.Errorf("%v: %s, then %s", trees[i], want[i], got)
				}
			}
		})
	}
	group.Wait()
}

// TestEmptyLists checks Z6: nil and empty lists are equivalent.
func TestEmptyLists(t *testing.T) {
	if got, want := describe(api.Tree{Inodes: []api.Inode{}}, "/", 0), describe(api.Tree{}, "/", 0); got != want {
		t.Errorf("an empty tree: %s, want %s", got, want)
	}
	for _, tested := range append(mixedTrees(500, false), mixedTrees(500, true)...) {
		empty := cloneTree(tested)
		for i := range empty.Inodes {
			inode := &empty.Inodes[i]
			inode.Entries = append(make([]api.DirEntry, 0, 8), inode.Entries...)
			inode.Data = append(make([]byte, 0, 8), inode.Data...)
			inode.ACL = append(make([]api.ACLEntry, 0, 8), inode.ACL...)
			inode.Attrs = append(make([]api.Attr, 0, 8), inode.Attrs...)
		}
		for n, p := range []string{"/", "/a", "/a/b"} {
			if got, want := describe(empty, p, n), describe(tested, p, n); got != want {
				t.Errorf("%v: %s, want %s", tested, got, want)
			}
		}
	}
}
