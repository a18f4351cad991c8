package hardlink_test

import (
	"fmt"
	"slices"
	"strings"
	"testing"

	"farshelf/api"
	"farshelf/fstree"
	"farshelf/hardlink"
	"farshelf/memfs"
)

// Paths at the limits; one more component or byte is too much.
var (
	longName = strings.Repeat("n", api.MaxNameBytes)
	longest  = strings.Repeat("/"+longName[1:], 4) + strings.Repeat("/"+longName, 4)
	deepest  = strings.Repeat("/a", api.MaxDepth)
)

var (
	success   = api.Fault{}
	allowRead = []api.ACLEntry{{User: 1, Allow: api.PermRead}}
)

func fault(code, index int) api.Fault { return api.Fault{Code: code, Index: index} }

func tree(inodes ...api.Inode) api.Tree { return api.Tree{Inodes: inodes} }

// dir returns a directory whose entries have the given names, each followed by
// the number of its inode.
func dir(texts ...any) api.Inode {
	inode := api.Inode{Kind: api.KindDir}
	for i := 0; i+1 < len(texts); i += 2 {
		inode.Entries = append(inode.Entries, api.DirEntry{Name: texts[i].(string), Inode: texts[i+1].(int)})
	}
	return inode
}

// file returns a file of n bytes.
func file(n int) api.Inode { return api.Inode{Kind: api.KindFile, Data: make([]byte, n)} }

// wide returns a directory whose n entries all have the same inode.
func wide(n, inode int) api.Inode {
	d := dir()
	for i := range n {
		d.Entries = append(d.Entries, api.DirEntry{Name: fmt.Sprintf("e%02d", i), Inode: inode})
	}
	return d
}

// add gives directory n of t an entry, if it has none of that name, and returns
// the inode that its entry of that name refers to.
func add(t *api.Tree, n int, name string, inode int) int {
	d := &t.Inodes[n]
	position, found := slices.BinarySearchFunc(d.Entries, name, func(e api.DirEntry, name string) int { return strings.Compare(e.Name, name) })
	if !found {
		d.Entries = slices.Insert(d.Entries, position, api.DirEntry{Name: name, Inode: inode})
	}
	return d.Entries[position].Inode
}

// treeOf returns a tree of files: each argument has the paths of one file,
// separated by spaces. The first inodes are the files, in their order.
func treeOf(files ...string) api.Tree {
	t := tree(dir())
	for range files {
		t.Inodes = append(t.Inodes, file(1))
	}
	for i, paths := range files {
		for _, p := range strings.Fields(paths) {
			components := strings.Split(p, "/")[1:]
			last := len(components) - 1
			n := 0
			for _, name := range components[:last] {
				next := len(t.Inodes)
				if n = add(&t, n, name, next); n == next {
					t.Inodes = append(t.Inodes, dir())
				}
			}
			add(&t, n, components[last], 1+i)
		}
	}
	return t
}

// small is a tree with nested directories, free inodes, fields that are not
// zero, a file with three names, one with two, two with one and the same data
// and one with one and no data.
func small() api.Tree {
	return tree(
		api.Inode{Kind: api.KindDir, Entries: dir("a", 2, "b", 4, "e", 9, "x", 8, "z", 6).Entries, Quota: 100, Version: 3},
		api.Inode{},
		api.Inode{Kind: api.KindDir, Owner: 2, Entries: dir("c", 5, "f", 3, "z", 6).Entries, ACL: allowRead, Quota: 50},
		file(7),
		dir("f", 3, "g", 7),
		dir("f", 3),
		api.Inode{Kind: api.KindFile, Owner: 7, Data: []byte{1, 2}, Attrs: []api.Attr{{Name: "k", Value: "v"}}, Version: 9},
		file(3),
		file(3),
		file(0),
		api.Inode{},
		api.Inode{},
	)
}

// crowded returns a valid tree of a file with as many names as there can be, in
// 39 directories.
func crowded() api.Tree {
	t := tree(dir())
	last := api.MaxInodes - 1
	for n := 1; n < last; n++ {
		add(&t, (n-1)/api.MaxDirEntries, fmt.Sprintf("d%02d", n), n)
		t.Inodes = append(t.Inodes, dir())
	}
	for n := range last {
		for i := 0; len(t.Inodes[n].Entries) < api.MaxDirEntries; i++ {
			add(&t, n, fmt.Sprintf("f%02d", i), last)
		}
	}
	t.Inodes = append(t.Inodes, file(1))
	return t
}

// linked returns the tree of the document's examples: that after OpLink from
// /f to /g.
func linked() api.Tree {
	t, _, _ := memfs.Run([]api.Request{
		{Kind: api.OpCreate, Path: "/f"},
		{Kind: api.OpLink, Path: "/f", Target: "/g"},
	})
	return t
}

// TestFixtures keeps the inputs as they are meant to be.
func TestFixtures(t *testing.T) {
	if len(longest) != api.MaxPathBytes || strings.Count(longest, "/") != api.MaxDepth || strings.Count(deepest, "/") != api.MaxDepth {
		t.Error("the limits are not those of the tests")
	}
	if paths, got := fstree.AllPaths(linked()); !slices.Equal(paths, []string{"/", "/f", "/g"}) || got != success {
		t.Errorf("AllPaths = %q, %v", paths, got)
	}
	want := []string{"/", "/a", "/a/c", "/a/c/f", "/a/f", "/a/z", "/b", "/b/f", "/b/g", "/e", "/x", "/z"}
	if paths, got := fstree.AllPaths(small()); !slices.Equal(paths, want) || got != success {
		t.Errorf("AllPaths = %q, %v", paths, got)
	}
	if paths, got := fstree.AllPaths(crowded()); len(paths) != 39*16+1 || got != success {
		t.Errorf("AllPaths = %d paths, %v", len(paths), got)
	}
}

// compareCounts compares the result of Counts with the numbers that are wanted.
func compareCounts(t *testing.T, tested api.Tree, want ...int) {
	t.Helper()
	if counts, got := hardlink.Counts(tested); !slices.Equal(counts, want) || got != success {
		t.Errorf("Counts = %v, %v, want %v", counts, got, want)
	}
}

// TestCounts checks R7.1.
func TestCounts(t *testing.T) {
	free := api.Inode{}
	cases := []struct {
		about string
		tree  api.Tree
		want  []int
	}{
		{"the document's example", tree(dir()), []int{0}},
		{"the document's other tree", linked(), []int{0, 2}},
		{"an empty root with all fields", tree(api.Inode{Kind: api.KindDir, Owner: 7, ACL: allowRead, Attrs: []api.Attr{{Name: "k", Value: "v"}}, Quota: 5, Version: 5}), []int{0}},
		{"a small tree", small(), []int{0, 0, 1, 3, 1, 1, 2, 1, 1, 1, 0, 0}},

		{"a file", tree(dir("f", 1), file(1)), []int{0, 1}},
		{"an empty file", tree(dir("f", 1), file(0)), []int{0, 1}},
		{"a large file", tree(dir("f", 1), file(api.MaxFileBytes)), []int{0, 1}},
		{"a file of a later version", tree(dir("f", 1), api.Inode{Kind: api.KindFile, Owner: 3, Version: 4}), []int{0, 1}},
		{"a directory", tree(dir("d", 1), dir()), []int{0, 1}},
		{"directories in directories", tree(dir("d", 1), dir("d", 2), dir("d", 3), dir()), []int{0, 1, 1, 1}},
		{"a directory with many entries", tree(dir("a", 1, "b", 2), dir("c", 3, "d", 4, "e", 5), dir(), dir(), dir(), dir()), []int{0, 1, 1, 1, 1, 1}},
		{"a child with a smaller number", tree(dir("d", 3), file(1), dir("f", 1), dir("e", 2)), []int{0, 1, 1, 1}},
		{"a file below directories", treeOf("/a/b/c/f"), []int{0, 1, 1, 1, 1}},

		{"free inodes at the end", tree(dir(), free, free), []int{0, 0, 0}},
		{"a free inode in the middle", tree(dir("f", 2), free, file(1)), []int{0, 0, 1}},
		{"free inodes in the middle and at the end", tree(dir("d", 4, "f", 2), free, file(1), free, dir("f", 2), free, free), []int{0, 0, 2, 0, 1, 0, 0}},
		{"only the last inode in use", tree(append([]api.Inode{dir("a", 39, "b", 39)}, append(make([]api.Inode, 38), file(1))...)...), append(make([]int, 39), 2)},

		{"two names in the root", tree(dir("f", 1, "g", 1), file(1)), []int{0, 2}},
		{"two names in a directory", treeOf("/d/f /d/g"), []int{0, 2, 1}},
		{"two names in two directories", treeOf("/a/f /b/g"), []int{0, 2, 1, 1}},
		{"the same name in two directories", treeOf("/a/f /b/f"), []int{0, 2, 1, 1}},
		{"a name in a directory and one beside it", treeOf("/d/f /f"), []int{0, 2, 1}},
		{"a name in each directory of a chain", treeOf("/f /a/f /a/b/f /a/b/c/f"), []int{0, 4, 1, 1, 1}},
		{"two names in each of two directories", treeOf("/a/f /a/g /b/f /b/g"), []int{0, 4, 1, 1}},
		{"names between those of other files", treeOf("/a /c /e", "/b /d", "/f"), []int{0, 3, 2, 1}},
		{"more names for a later file", treeOf("/a", "/b /c", "/d /e /f"), []int{0, 1, 2, 3}},
		{"files with the same data", tree(dir("f", 1, "g", 2), file(3), file(3)), []int{0, 1, 1}},
		{"files that have the same names, below", treeOf("/a/f", "/b/f", "/a/g /b/g"), []int{0, 1, 1, 2, 1, 1}},
		{"as many names as a directory holds", tree(wide(api.MaxDirEntries, 1), file(1)), []int{0, 16}},
		{"a file with names at the limits", treeOf(longest + " " + deepest), append([]int{0, 2}, slices.Repeat([]int{1}, 14)...)},
		{"as many names as a tree holds", crowded(), slices.Concat([]int{0}, slices.Repeat([]int{1}, 38), []int{39*16 - 38})},
	}
	for _, c := range cases {
		t.Run(c.about, func(t *testing.T) { compareCounts(t, c.tree, c.want...) })
	}
}

// compareGroups compares the result of Groups with the lists that are wanted,
// each with its paths separated by spaces.
func compareGroups(t *testing.T, tested api.Tree, want ...string) {
	t.Helper()
	groups, got := hardlink.Groups(tested)
	var texts []string
	for _, group := range groups {
		texts = append(texts, strings.Join(group, " "))
	}
	if !slices.Equal(texts, want) || got != success {
		t.Errorf("Groups = %q, %v, want %q", groups, got, want)
	}
}

// TestNoGroups checks R7.3 for trees of files with one name.
func TestNoGroups(t *testing.T) {
	cases := []struct {
		about string
		tree  api.Tree
	}{
		{"an empty root", tree(dir())},
		{"free inodes", tree(dir(), api.Inode{}, api.Inode{})},
		{"a file", tree(dir("f", 1), file(1))},
		{"a file between free inodes", tree(dir("f", 2), api.Inode{}, file(1), api.Inode{})},
		{"a directory with two entries", tree(dir("d", 1), dir("f", 2, "g", 3), file(1), file(1))},
		{"nested directories", tree(dir("d", 1), dir("d", 2), dir("d", 3), dir())},
		{"the same name in two directories", treeOf("/a/f", "/b/f")},
		{"files with the same data and fields", tree(dir("f", 1, "g", 2, "h", 3), file(3), file(3), file(3))},
		{"empty files", tree(dir("f", 1, "g", 2), file(0), file(0))},
		{"files of several versions", tree(dir("f", 1, "g", 2), api.Inode{Kind: api.KindFile, Version: 2}, api.Inode{Kind: api.KindFile, Version: 3})},
		{"a file of MaxPathBytes bytes and MaxDepth components", treeOf(longest)},
	}
	for _, c := range cases {
		t.Run(c.about, func(t *testing.T) { compareGroups(t, c.tree) })
	}
}

// TestGroups checks R7.3 for trees of files with several names.
func TestGroups(t *testing.T) {
	cases := []struct {
		about string
		tree  api.Tree
		want  []string
	}{
		{"the document's example", linked(), []string{"/f /g"}},
		{"a small tree", small(), []string{"/a/c/f /a/f /b/f", "/a/z /z"}},

		{"two names in one directory", treeOf("/d/f /d/g"), []string{"/d/f /d/g"}},
		{"two names in two directories", treeOf("/a/g /b/f"), []string{"/a/g /b/f"}},
		{"the same name in two directories", treeOf("/a/f /b/f"), []string{"/a/f /b/f"}},
		{"a name in a directory and one beside it", treeOf("/d /e/d"), []string{"/d /e/d"}},
		{"a name in each directory of a chain", treeOf("/f /a/f /a/b/f /a/b/c/f"), []string{"/a/b/c/f /a/b/f /a/f /f"}},
		{"an empty file", tree(dir("f", 1, "g", 1), file(0)), []string{"/f /g"}},
		{"a file behind free inodes", tree(dir("f", 3, "g", 3), api.Inode{}, api.Inode{}, file(1), api.Inode{}), []string{"/f /g"}},
		{"the last of all inodes", tree(append([]api.Inode{dir("a", 39, "b", 39)}, append(make([]api.Inode, 38), file(1))...)...), []string{"/a /b"}},
		{"as many names as a directory holds", tree(wide(16, 1), file(1)), []string{"/e00 /e01 /e02 /e03 /e04 /e05 /e06 /e07 /e08 /e09 /e10 /e11 /e12 /e13 /e14 /e15"}},
		{"names at the limits", treeOf(deepest + " " + longest), []string{deepest + " " + longest}},

		{"a file with one name beside", treeOf("/f", "/g /h"), []string{"/g /h"}},
		{"a file with one name between", treeOf("/f /h", "/g"), []string{"/f /h"}},
		{"files with one name at both ends", treeOf("/a", "/b /y", "/z"), []string{"/b /y"}},

		{"two files in the order of their numbers", treeOf("/a /b", "/c /d"), []string{"/a /b", "/c /d"}},
		{"two files in the other order", treeOf("/c /d", "/a /b"), []string{"/a /b", "/c /d"}},
		{"three files in another order", treeOf("/c /d", "/e /f", "/a /b"), []string{"/a /b", "/c /d", "/e /f"}},
		{"four files in the reverse order", treeOf("/g /h", "/e /f", "/c /d", "/a /b"), []string{"/a /b", "/c /d", "/e /f", "/g /h"}},
		{"the first path decides, not the last", treeOf("/b /c", "/a /d"), []string{"/a /d", "/b /c"}},
		{"the first path decides, not the number of paths", treeOf("/b /c", "/a /d /e"), []string{"/a /d /e", "/b /c"}},
		{"the first path decides, not the number of paths, the other way", treeOf("/b /d /e", "/a /c"), []string{"/a /c", "/b /d /e"}},
		{"the first path decides, not its depth", treeOf("/b /c", "/a/a/a /d"), []string{"/a/a/a /d", "/b /c"}},
		{"the first path decides, not its length", treeOf("/b /c", "/aaa /d"), []string{"/aaa /d", "/b /c"}},
		{"the first path decides, not its last name", treeOf("/b/a /d", "/a/b /c"), []string{"/a/b /c", "/b/a /d"}},
		{"a first path that begins like another", treeOf("/aa /c", "/a /b"), []string{"/a /b", "/aa /c"}},
		{"the smallest path is not that of the first entry", treeOf("/m /z", "/b /n", "/a/x /o"), []string{"/a/x /o", "/b /n", "/m /z"}},

		{"paths in the order of bytes, not of components", treeOf("/a/b /a-/b /a.b /a0"), []string{"/a-/b /a.b /a/b /a0"}},
		{"lists in the order of bytes, not of components", treeOf("/a/b /a/c", "/a-/b /a-/c", "/a.b /a.c", "/a0 /a1"), []string{"/a-/b /a-/c", "/a.b /a.c", "/a/b /a/c", "/a0 /a1"}},
		{"upper case, digits and other bytes", treeOf("/a /b", "/_ /z", "/A /B", "/9 /x", "/- /w"), []string{"/- /w", "/9 /x", "/A /B", "/_ /z", "/a /b"}},
		{"names that are numbers", treeOf("/9 /x", "/10 /y"), []string{"/10 /y", "/9 /x"}},
	}
	for _, c := range cases {
		t.Run(c.about, func(t *testing.T) { compareGroups(t, c.tree, c.want...) })
	}
}

// TestManyGroups checks R7.3 for as many files with several names as a tree can
// have, whose numbers are in the reverse order, and for a file with as many
// names as there can be.
func TestManyGroups(t *testing.T) {
	var paths []string
	for _, d := range []string{"/a", "/b", "/c", "/d"} {
		for i := range api.MaxDirEntries {
			paths = append(paths, fmt.Sprintf("%s/f%02d", d, i))
		}
	}
	for i := range 6 {
		paths = append(paths, fmt.Sprintf("/e%02d", i))
	}
	var want []string
	for i := range 35 {
		want = append(want, paths[i]+" "+paths[69-i])
	}
	files := slices.Clone(want)
	slices.Reverse(files)
	many := treeOf(files...)
	if len(many.Inodes) != api.MaxInodes {
		t.Errorf("%d inodes", len(many.Inodes))
	}
	compareGroups(t, many, want...)

	all, _ := fstree.PathsOf(crowded(), api.MaxInodes-1)
	if len(all) != 39*16-38 {
		t.Errorf("%d names", len(all))
	}
	compareGroups(t, crowded(), strings.Join(all, " "))
}

// TestSameFile checks R7.2.
func TestSameFile(t *testing.T) {
	// Each line has paths that refer to the same inode of small.
	same := []string{"/", "/a", "/a/c", "/a/c/f /a/f /b/f", "/a/z /z", "/b", "/b/g", "/e", "/x"}
	for i, first := range same {
		for j, second := range same {
			for _, a := range strings.Fields(first) {
				for _, b := range strings.Fields(second) {
					if ok, got := hardlink.SameFile(small(), a, b); ok != (i == j) || got != success {
						t.Errorf("SameFile(%q, %q) = %v, %v", a, b, ok, got)
					}
				}
			}
		}
	}
}

// TestSameFileTrees checks R7.2 for other trees.
func TestSameFileTrees(t *testing.T) {
	twins := tree(dir("f", 1, "g", 2), file(3), file(3))
	empty := tree(dir("a", 1, "b", 2), dir(), dir())
	full := tree(dir("a", 1, "b", 2), dir("f", 3), dir("f", 3), file(1))
	cases := []struct {
		about string
		tree  api.Tree
		a, b  string
		want  bool
	}{
		{"the document's example", linked(), "/f", "/g", true},
		{"the document's example, the other way", linked(), "/g", "/f", true},
		{"a file with itself", linked(), "/f", "/f", true},
		{"a file with its directory", linked(), "/f", "/", false},
		{"the root with a file", linked(), "/", "/g", false},
		{"an empty root", tree(dir()), "/", "/", true},
		{"two files with the same data", twins, "/f", "/g", false},
		{"one of them", twins, "/g", "/g", true},
		{"two empty files", tree(dir("f", 1, "g", 2), file(0), file(0)), "/f", "/g", false},
		{"two empty directories", empty, "/a", "/b", false},
		{"an empty directory", empty, "/b", "/b", true},
		{"two directories with the same entries", full, "/a", "/b", false},
		{"their entries", full, "/a/f", "/b/f", true},
		{"a directory and its entry", full, "/a", "/a/f", false},
		{"the same name for two files in two directories", treeOf("/a/f", "/b/f"), "/a/f", "/b/f", false},
		{"a file above and below", treeOf("/f /a/b/c/f", "/g"), "/a/b/c/f", "/f", true},
		{"another file above", treeOf("/f /a/b/c/f", "/g"), "/a/b/c/f", "/g", false},
		{"a name that begins like another", treeOf("/f /ff"), "/f", "/ff", true},
		{"two files whose names differ in case", treeOf("/f", "/F"), "/f", "/F", false},
		{"the first and the last name of many", tree(wide(16, 1), file(1)), "/e00", "/e15", true},
		{"paths at the limits", treeOf(deepest + " " + longest), deepest, longest, true},
		{"paths at the limits of two files", treeOf(deepest, longest), deepest, longest, false},
	}
	for _, c := range cases {
		if ok, got := hardlink.SameFile(c.tree, c.a, c.b); ok != c.want || got != success {
			t.Errorf("%s: SameFile(%q, %q) = %v, %v, want %v", c.about, c.a, c.b, ok, got, c.want)
		}
	}
}

// invalidTree is a tree with its error.
type invalidTree struct {
	about string
	tree  api.Tree
	fault api.Fault
}

// invalidInodes are trees for the errors of fstree.Validate that inode 1 has.
func invalidInodes() []invalidTree {
	list := func(n int, e api.ACLEntry) []api.ACLEntry { return slices.Repeat([]api.ACLEntry{e}, n) }
	attrs := func(l ...api.Attr) []api.Attr { return l }
	cases := []struct {
		about string
		inode api.Inode
		code  int
	}{
		{"an unknown kind", api.Inode{Kind: 3}, api.ErrKind},
		{"a negative kind", api.Inode{Kind: -1}, api.ErrKind},
		{"a wrong owner", api.Inode{Kind: api.KindFile, Owner: api.MaxUser + 1}, api.ErrRange},
		{"a negative owner", api.Inode{Kind: api.KindDir, Owner: -1}, api.ErrRange},
		{"a wrong version", api.Inode{Kind: api.KindFile, Version: api.MaxValue + 1}, api.ErrRange},
		{"a wrong quota", api.Inode{Kind: api.KindDir, Quota: api.MaxQuota + 1}, api.ErrRange},
		{"a directory with data", api.Inode{Kind: api.KindDir, Data: []byte{0}}, api.ErrMalformed},
		{"a file with an entry", api.Inode{Kind: api.KindFile, Entries: dir("g", 2).Entries}, api.ErrMalformed},
		{"a file with a quota", api.Inode{Kind: api.KindFile, Quota: 1}, api.ErrMalformed},
		{"too much data", file(api.MaxFileBytes + 1), api.ErrTooLarge},
		{"too many permissions", api.Inode{Kind: api.KindFile, ACL: list(7, allowRead[0])}, api.ErrTooMany},
		{"permissions for no user", api.Inode{Kind: api.KindFile, ACL: list(1, api.ACLEntry{User: 8, Allow: 1})}, api.ErrRange},
		{"no permissions", api.Inode{Kind: api.KindFile, ACL: list(1, api.ACLEntry{User: 1})}, api.ErrMalformed},
		{"too many attributes", api.Inode{Kind: api.KindFile, Attrs: make([]api.Attr, 7)}, api.ErrTooMany},
		{"an attribute without a name", api.Inode{Kind: api.KindFile, Attrs: attrs(api.Attr{Value: "v"})}, api.ErrName},
		{"an attribute of too many bytes", api.Inode{Kind: api.KindFile, Attrs: attrs(api.Attr{Name: "k", Value: longName + longName})}, api.ErrTooLarge},
		{"an attribute without a value", api.Inode{Kind: api.KindFile, Attrs: attrs(api.Attr{Name: "k"})}, api.ErrMalformed},
		{"too many entries", wide(api.MaxDirEntries+1, 2), api.ErrTooMany},
		{"a name with a slash", dir("a/b", 2), api.ErrName},
		{"a name that is too long", dir(longName+"n", 2), api.ErrName},
		{"names that are not sorted", dir("b", 2, "a", 2), api.ErrMalformed},
		{"a name twice", dir("a", 2, "a", 2), api.ErrMalformed},
		{"an entry for no inode", dir("a", 4), api.ErrRange},
		{"an entry for a negative inode", dir("a", -1), api.ErrRange},
		{"an entry for a free inode", dir("a", 3), api.ErrRange},
		{"an entry for the root", dir("a", 0), api.ErrRange},
	}
	var trees []invalidTree
	for _, c := range cases {
		trees = append(trees, invalidTree{c.about, tree(dir("e", 1, "f", 2, "g", 2), c.inode, file(1), api.Inode{}), fault(c.code, 1)})
	}
	return trees
}

// invalidTrees are trees for the errors of fstree.Validate.
func invalidTrees() []invalidTree {
	limited := tree(dir("d", 1), dir("f", 2, "g", 2), file(2))
	limited.Inodes[1].Quota = 1
	deep := treeOf("/f /g", deepest+"/a /h")
	long := treeOf("/f /g /h /i", "/n"+longest[1:])
	return append(invalidInodes(), []invalidTree{
		{"no inodes", tree(), fault(api.ErrNotFound, 0)},
		{"an inode too many", tree(append([]api.Inode{dir()}, make([]api.Inode, api.MaxInodes)...)...), fault(api.ErrTooMany, 0)},
		{"a file as the root", tree(file(1)), fault(api.ErrWrongType, 0)},
		{"a free root", tree(api.Inode{}), fault(api.ErrWrongType, 0)},
		{"a free inode with a version", tree(dir("f", 1, "g", 1), file(1), api.Inode{Version: 1}), fault(api.ErrMalformed, 2)},
		{"a free inode with data", tree(dir("f", 1, "g", 1), file(1), api.Inode{}, api.Inode{Data: []byte{1}}), fault(api.ErrMalformed, 3)},
		{"an entry of the root for the inode behind the last", tree(dir("f", 1, "g", 1, "h", 2), file(1)), fault(api.ErrRange, 0)},
		{"an entry of the root for itself", tree(dir("f", 1, "g", 0), file(1)), fault(api.ErrRange, 0)},
		{"a file without a name", tree(dir("f", 1, "g", 1), file(1), file(1)), fault(api.ErrState, 2)},
		{"a directory without a name", tree(dir("f", 1, "g", 1), file(1), dir()), fault(api.ErrState, 2)},
		{"a directory with two names", tree(dir("a", 1, "b", 1), dir()), fault(api.ErrState, 1)},
		{"a directory with a name in itself as well", tree(dir("a", 1), dir("b", 1)), fault(api.ErrState, 1)},
		{"a cycle", tree(dir("f", 1, "g", 1), file(1), dir("a", 3), dir("b", 2)), fault(api.ErrState, 2)},
		{"two names of a file in a cycle", tree(dir(), dir("a", 1, "f", 2, "g", 2), file(1)), fault(api.ErrState, 1)},
		{"one of two paths is too deep", deep, fault(api.ErrTooLarge, 2)},
		{"a path that is too long", long, fault(api.ErrTooLarge, 2)},
		{"a quota that is exceeded", limited, fault(api.ErrNoSpace, 1)},
	}...)
}

// checkTree checks that the error of a tree is that of all functions, for any
// paths.
func checkTree(t *testing.T, about string, tested api.Tree, want api.Fault) {
	t.Helper()
	if counts, got := hardlink.Counts(tested); len(counts) != 0 || got != want {
		t.Errorf("%s: Counts = %v, %v, want %v", about, counts, got, want)
	}
	if groups, got := hardlink.Groups(tested); len(groups) != 0 || got != want {
		t.Errorf("%s: Groups = %q, %v, want %v", about, groups, got, want)
	}
	for _, a := range []string{"/", "/f", "/x/y", "", "/a/", deepest + "/a", longest + "n"} {
		for _, b := range []string{"/", "/g", "/x/y/z", "a", "//", deepest + "/a", longest + "n"} {
			if ok, got := hardlink.SameFile(tested, a, b); ok || got != want {
				t.Errorf("%s: SameFile(%q, %q) = %v, %v, want %v", about, a, b, ok, got, want)
			}
		}
	}
}

// TestTreeErrors checks the errors that R7.1 to R7.3 take from fstree.Validate.
func TestTreeErrors(t *testing.T) {
	for _, c := range invalidTrees() {
		checkTree(t, c.about, c.tree, c.fault)
	}
}

// TestTreeErrorOrder checks R7.1 to R7.3 for trees with two errors: the one that
// fstree.Validate checks first is returned.
func TestTreeErrorOrder(t *testing.T) {
	steps := []struct {
		about string
		fault api.Fault
		add   func(t *api.Tree)
	}{
		{"an inode too many", fault(api.ErrTooMany, 0), func(t *api.Tree) { t.Inodes = append(t.Inodes, make([]api.Inode, 35)...) }},
		{"a file as the root", fault(api.ErrWrongType, 0), func(t *api.Tree) { t.Inodes[0].Kind = api.KindFile }},
		{"a wrong owner", fault(api.ErrRange, 1), func(t *api.Tree) { t.Inodes[1].Owner = 8 }},
		{"a directory with data", fault(api.ErrMalformed, 2), func(t *api.Tree) { t.Inodes[2].Data = []byte{1} }},
		{"an unknown kind", fault(api.ErrKind, 3), func(t *api.Tree) { t.Inodes[3].Kind = 3 }},
		{"a free inode with an owner", fault(api.ErrMalformed, 4), func(t *api.Tree) { t.Inodes[4].Owner = 1 }},
		{"a file without a name", fault(api.ErrState, 5), func(t *api.Tree) { t.Inodes[5] = file(0) }},
		{"a cycle", fault(api.ErrState, 1), func(t *api.Tree) {
			t.Inodes[0].Entries = dir("f", 3).Entries
			t.Inodes[1].Entries = dir("d", 2).Entries
			t.Inodes[2].Entries = dir("e", 1).Entries
		}},
		{"a quota that is exceeded", fault(api.ErrNoSpace, 0), func(t *api.Tree) { t.Inodes[0].Quota = 1 }},
	}
	for i, first := range steps {
		for _, second := range steps[i:] {
			wrong := tree(dir("d", 1, "e", 2, "f", 3), dir("f", 3), dir(), file(2), api.Inode{}, api.Inode{})
			compareGroups(t, wrong, "/d/f /f")
			// The first one is added last, so that it is there in any case.
			second.add(&wrong)
			first.add(&wrong)
			checkTree(t, first.about+" and "+second.about, wrong, first.fault)
		}
	}
}

// wrongPaths returns paths for each error of fstree.Lookup in small.
func wrongPaths() map[string]api.Fault {
	return map[string]api.Fault{
		"":                              fault(api.ErrMalformed, -1),
		"a":                             fault(api.ErrMalformed, -1),
		"a/f":                           fault(api.ErrMalformed, -1),
		" /a":                           fault(api.ErrMalformed, -1),
		"//":                            fault(api.ErrName, -1),
		"/.":                            fault(api.ErrName, -1),
		"/a/":                           fault(api.ErrName, -2),
		"/a//f":                         fault(api.ErrName, -2),
		"/a/../a":                       fault(api.ErrName, -2),
		"/a/c/f g":                      fault(api.ErrName, -3),
		"/x/y/" + longName + "n":        fault(api.ErrName, -3),
		"/a/\xff":                       fault(api.ErrName, -2),
		strings.Repeat("/a", 49) + "/.": fault(api.ErrName, -50),
		deepest + "/a":                  fault(api.ErrTooLarge, -1),
		longest + "n":                   fault(api.ErrTooMany, -1),
		strings.Repeat("a", 101):        fault(api.ErrTooMany, -1),
		strings.Repeat("/a", 1<<16):     fault(api.ErrTooMany, -1),
		"/f":                            fault(api.ErrNotFound, 0),
		"/A":                            fault(api.ErrNotFound, 0),
		"/g/f":                          fault(api.ErrNotFound, 0),
		"/a/g":                          fault(api.ErrNotFound, 1),
		"/a/g/f":                        fault(api.ErrNotFound, 1),
		"/a/c/z":                        fault(api.ErrNotFound, 2),
		"/z/a":                          fault(api.ErrWrongType, 1),
		"/z/a/b/c":                      fault(api.ErrWrongType, 1),
		"/a/c/f/f":                      fault(api.ErrWrongType, 3),
		longest:                         fault(api.ErrNotFound, 0),
		deepest:                         fault(api.ErrNotFound, 1),
	}
}

// TestSameFileErrors checks the errors that R7.2 takes from fstree.Lookup, for
// either path and for both: those of the first path come first.
func TestSameFileErrors(t *testing.T) {
	check := func(a, b string, want api.Fault) {
		t.Helper()
		if ok, got := hardlink.SameFile(small(), a, b); ok || got != want {
			t.Errorf("SameFile(%.110q, %.110q) = %v, %v, want %v", a, b, ok, got, want)
		}
	}
	for wrong, want := range wrongPaths() {
		if n, got := fstree.Lookup(small(), wrong); n != 0 || got != want {
			t.Errorf("Lookup(%.110q) = %d, %v, want %v", wrong, n, got, want)
		}
		for _, right := range []string{"/", "/a", "/a/f", "/b/f", "/z", "/e"} {
			check(wrong, right, want)
			check(right, wrong, want)
		}
		for other := range wrongPaths() {
			check(wrong, other, want)
		}
	}
	if _, got := hardlink.SameFile(linked(), "/f", "/h"); got != fault(api.ErrNotFound, 0) {
		t.Errorf("SameFile of a path that does not exist = %v", got)
	}
}
