package glob_test

import (
	"fmt"
	"math"
	"math/rand/v2"
	"reflect"
	"slices"
	"strings"
	"sync"
	"testing"

	"farshelf/api"
	"farshelf/glob"
)

// cloneTree returns a tree that shares no memory with t.
func cloneTree(t api.Tree) api.Tree {
	clone := api.Tree{Inodes: slices.Clone(t.Inodes)}
	for i := range clone.Inodes {
		inode := &clone.Inodes[i]
		inode.Entries, inode.Data = slices.Clone(inode.Entries), slices.Clone(inode.Data)
		inode.ACL, inode.Attrs = slices.Clone(inode.ACL), slices.Clone(inode.Attrs)
	}
	return clone
}

// describe returns the results of all functions, or the panic of one of them.
func describe(t api.Tree, pattern, text string) (all string) {
	defer func() {
		if e := recover(); e != nil {
			all = fmt.Sprint("panic: ", e)
		}
	}()
	ok, f1 := glob.Match(pattern, text)
	paths, f2 := glob.Find(t, pattern)
	return fmt.Sprintf("%v %v %q %v", ok, f1, paths, f2)
}

// strangeTexts are strings that no caller should pass, among some that one may.
func strangeTexts() []string {
	return []string{
		"", "/", "//", "*", "?", "**", "/*", "/**", "/?", "/a/**/c", "/a*c?", "*?*?*", "a/**", "/a/", "/[", "/[a-", "/\\", "/a\\", "/{a,", "/%s", "/(", "/+",
		"\x00", "/\x00", "\xff\xfe", "/\xff*", "/\xc3", "/\xed\xa0\x80", "/\u2028", "/*\r\n",
		full, tooLong, "/" + full, longest, deepest, deepest + "/a",
		strings.Repeat("*", 100), strings.Repeat("/**", 33), strings.Repeat("*a", 50), strings.Repeat("/", 100), strings.Repeat("/*", 50),
		strings.Repeat("/", 1<<20), strings.Repeat("*", 1<<20), strings.Repeat("/**", 1<<19), strings.Repeat("\xff", 1<<20),
	}
}

// strangeTrees are trees that no caller should pass.
func strangeTrees() []api.Tree {
	trees := []api.Tree{{}, {Inodes: make([]api.Inode, 1<<16)}, tree(dir("a", 0)), tree(dir("a", 1), dir("b", 0)), tree(dir("", 1, "", 1), dir()), tree(dir("/", 1), file(1)), tree(dir("**", 1), file(1))}
	numbers := []int{math.MinInt, -1, 0, 1, 2, 39, 40, math.MaxInt}
	for _, kind := range numbers {
		for _, number := range numbers {
			inode := api.Inode{Kind: kind, Entries: dir("a", number).Entries}
			other := api.Inode{Kind: kind, Owner: number, Quota: number, Version: number}
			trees = append(trees, tree(inode), tree(dir("a", 1), inode), tree(inode, inode), tree(dir("a", number)), tree(other), tree(dir("a", 1), other))
		}
	}
	ring := tree(dir())
	for i := range api.MaxInodes - 1 {
		ring.Inodes = append(ring.Inodes, dir("d", 1+(i+1)%(api.MaxInodes-1)))
	}
	trees = append(trees, ring, api.Tree{Inodes: slices.Repeat([]api.Inode{dir("a", 1, "b", 2)}, 40)})
	for _, c := range invalidTrees() {
		trees = append(trees, c.tree)
	}
	return trees
}

// TestTotality checks Z1: no argument makes a function panic or go on without
// an end.
func TestTotality(t *testing.T) {
	check := func(tested api.Tree, pattern, text string) {
		t.Helper()
		if all := describe(tested, pattern, text); strings.HasPrefix(all, "panic") {
			t.Errorf("%.200s, %.40q, %.40q: %s", fmt.Sprint(tested), pattern, text, all)
		}
	}
	inTime(t, "strange arguments", func() {
		for _, pattern := range strangeTexts() {
			for _, text := range strangeTexts() {
				check(small(), pattern, text)
			}
			for _, tested := range append(strangeTrees(), largest()) {
				check(tested, pattern, "a")
			}
		}
	})
}

// TestZeroResults checks Z2: with a fault, the other result is zero, and
// without one the fault has no index either.
func TestZeroResults(t *testing.T) {
	for _, pattern := range strangeTexts() {
		for _, text := range strangeTexts() {
			ok, got := glob.Match(pattern, text)
			if got.Code != api.OK && ok || got.Code == api.OK && got.Index != 0 {
				t.Errorf("Match(%.40q, %.40q) = %v, %v", pattern, text, ok, got)
			}
		}
		for _, tested := range append(strangeTrees(), small(), largest(), tree(dir())) {
			paths, got := glob.Find(tested, pattern)
			if got.Code != api.OK && len(paths) > 0 || got.Code == api.OK && got.Index != 0 {
				t.Errorf("Find(%.40q) = %q, %v", pattern, paths, got)
			}
		}
	}
}

// roomy returns t with spare capacity behind all its lists.
func roomy(t api.Tree) api.Tree {
	clone := api.Tree{Inodes: append(slices.Clone(t.Inodes), file(3), dir("spare", 1))[:len(t.Inodes)]}
	for i := range clone.Inodes {
		inode := &clone.Inodes[i]
		inode.Entries = append(slices.Clone(inode.Entries), dir("spare", 1, "a", 0).Entries...)[:len(inode.Entries)]
		inode.Data = append(slices.Clone(inode.Data), 7, 7)[:len(inode.Data)]
		inode.ACL = append(slices.Clone(inode.ACL), api.ACLEntry{User: 5})[:len(inode.ACL)]
		inode.Attrs = append(slices.Clone(inode.Attrs), api.Attr{Name: "spare"})[:len(inode.Attrs)]
	}
	return clone
}

// whole returns t with the spare capacity of its lists as a part of them.
func whole(t api.Tree) api.Tree {
	clone := api.Tree{Inodes: slices.Clone(t.Inodes[:cap(t.Inodes)])}
	for i := range clone.Inodes {
		inode := &clone.Inodes[i]
		inode.Entries, inode.Data = inode.Entries[:cap(inode.Entries)], inode.Data[:cap(inode.Data)]
		inode.ACL, inode.Attrs = inode.ACL[:cap(inode.ACL)], inode.Attrs[:cap(inode.Attrs)]
	}
	return clone
}

// grownTrees returns valid trees that grew by chance, each with a pattern.
func grownTrees(n int) ([]api.Tree, []string) {
	source := rand.New(rand.NewPCG(6, 3))
	trees, patterns := make([]api.Tree, n), make([]string, n)
	for i := range n {
		trees[i] = grownTree(source)
		patterns[i] = grownPattern(source, trees[i])
	}
	return trees, patterns
}

// TestArgumentsStay checks Z4: neither a tree nor the spare capacity of its
// lists is modified.
func TestArgumentsStay(t *testing.T) {
	trees, patterns := grownTrees(300)
	for i, tested := range append(trees, small(), largest(), tree(), treeOf(deepest+"/a")) {
		argument := roomy(tested)
		before := cloneTree(whole(argument))
		for _, pattern := range []string{"/", "/**", "/a/*", "/x", "x", tooLong, patterns[i%len(patterns)]} {
			glob.Find(argument, pattern)
		}
		if after := whole(argument); !reflect.DeepEqual(cloneTree(after), before) {
			t.Errorf("%v became %v", before, after)
		}
	}
}

// TestResultsAreSeparate checks Z4: a caller that changes a result, or its
// spare capacity, changes no other one and no argument.
func TestResultsAreSeparate(t *testing.T) {
	tested := small()
	for _, pattern := range []string{"/", "/**", "/a/**", "/**/c", "/?", "/x.y", "/x"} {
		call := func() []string { paths, _ := glob.Find(tested, pattern); return paths }
		want := slices.Clone(call())
		first, second := call(), call()
		for k := range first[:cap(first)] {
			first[:cap(first)][k] = "spoilt"
		}
		if third := call(); !slices.Equal(second, want) || !slices.Equal(third, want) {
			t.Errorf("%s: %q and %q after a change of the first result, want %q", pattern, second, third, want)
		}
	}
	if !reflect.DeepEqual(tested, small()) {
		t.Errorf("the tree became %v", tested)
	}
}

// TestDeterminism checks Z5: a call returns the same whatever was called
// before it or is called at the same time.
func TestDeterminism(t *testing.T) {
	trees, patterns := grownTrees(500)
	call := func(i int) string {
		paths, _ := glob.Find(trees[i], "/**")
		return describe(trees[i], patterns[i], paths[i%len(paths)])
	}
	want := make([]string, len(trees))
	for i := range trees {
		want[i] = call(i)
	}
	var group sync.WaitGroup
	for worker := range 4 {
		group.Go(func() {
			for k := range trees {
				i := (len(trees) - 1 - k + worker*7) % len(trees)
				if got := call(i); got != want[i] {
					t.Errorf("%v, %q: %s, then %s", trees[i], patterns[i], want[i], got)
				}
			}
		})
	}
	group.Wait()
}

// TestEmptyLists checks Z6: nil and empty lists are equivalent.
func TestEmptyLists(t *testing.T) {
	if got, want := describe(api.Tree{Inodes: []api.Inode{}}, "/", ""), describe(api.Tree{}, "/", ""); got != want {
		t.Errorf("an empty tree: %s, want %s", got, want)
	}
	trees, patterns := grownTrees(500)
	for i, tested := range trees {
		empty := cloneTree(tested)
		for n := range empty.Inodes {
			inode := &empty.Inodes[n]
			inode.Entries = append(make([]api.DirEntry, 0, 8), inode.Entries...)
			inode.Data = append(make([]byte, 0, 8), inode.Data...)
			inode.ACL = append(make([]api.ACLEntry, 0, 8), inode.ACL...)
			inode.Attrs = append(make([]api.Attr, 0, 8), inode.Attrs...)
		}
		if got, want := describe(empty, patterns[i], "a"), describe(tested, patterns[i], "a"); got != want {
			t.Errorf("%v: %s, want %s", tested, got, want)
		}
	}
}
