package glob_test

import (
	"fmt"
	"slices"
	"strings"
	"testing"
	"time"

	"farshelf/api"
	"farshelf/fstree"
	"farshelf/glob"
)

// Inputs at the limits and one beyond them.
var (
	longName = strings.Repeat("n", api.MaxNameBytes)
	longest  = strings.Repeat("/"+longName[1:], 4) + strings.Repeat("/"+longName, 4)
	deepest  = strings.Repeat("/a", api.MaxDepth)
	full     = strings.Repeat("a", api.MaxPathBytes)
	tooLong  = full + "a"
)

var success = api.Fault{}

func fault(code, index int) api.Fault { return api.Fault{Code: code, Index: index} }

func tree(inodes ...api.Inode) api.Tree { return api.Tree{Inodes: inodes} }

// dir returns a directory whose entries have the given names, each followed by
// the number of its inode.
func dir(texts ...any) api.Inode {
	inode := api.Inode{Kind: api.KindDir}
	for i := 0; i+1 < len(texts); i += 2 {
		inode.Entries = append(inode.Entries, api.DirEntry{Name: texts[i].(string), Inode: texts[i+1].(int)})
	}
	return inode
}

// file returns a file of n bytes.
func file(n int) api.Inode { return api.Inode{Kind: api.KindFile, Data: make([]byte, n)} }

// add gives directory n of t an entry, if it has none of that name, and returns
// the inode that its entry of that name refers to.
func add(t *api.Tree, n int, name string, inode int) int {
	d := &t.Inodes[n]
	position, found := slices.BinarySearchFunc(d.Entries, name, func(e api.DirEntry, name string) int { return strings.Compare(e.Name, name) })
	if !found {
		d.Entries = slices.Insert(d.Entries, position, api.DirEntry{Name: name, Inode: inode})
	}
	return d.Entries[position].Inode
}

// treeOf returns a tree of directories with the given paths.
func treeOf(paths ...string) api.Tree {
	t := tree(dir())
	for _, p := range paths {
		n := 0
		for _, name := range strings.Split(p, "/")[1:] {
			next := len(t.Inodes)
			if n = add(&t, n, name, next); n == next {
				t.Inodes = append(t.Inodes, dir())
			}
		}
	}
	return t
}

// small is a tree with nested directories, a file with three names, free inodes
// and fields that are not zero.
func small() api.Tree {
	return tree(
		api.Inode{Kind: api.KindDir, Entries: dir("a", 2, "ab", 4, "b", 6, "x.y", 8).Entries, Quota: 100, Version: 3},
		api.Inode{},
		dir("b", 5, "c", 3),
		file(7),
		file(0),
		api.Inode{Kind: api.KindDir, Owner: 2, Entries: dir("c", 3).Entries, ACL: []api.ACLEntry{{User: -1, Deny: 15}}},
		dir("a", 7),
		dir("c", 3),
		api.Inode{Kind: api.KindFile, Owner: 1, Data: []byte("/a/*"), Attrs: []api.Attr{{Name: "k", Value: "v"}}},
		api.Inode{},
	)
}

// smallPaths are the paths of small.
func smallPaths() []string {
	return []string{"/", "/a", "/a/b", "/a/b/c", "/a/c", "/ab", "/b", "/b/a", "/b/a/c", "/x.y"}
}

// TestFixtures keeps the inputs as they are meant to be.
func TestFixtures(t *testing.T) {
	if len(full) != 100 || len(longest) != 100 || len(tooLong) != 101 || strings.Count(longest, "/") != 8 || strings.Count(deepest, "/") != 8 {
		t.Error("the limits are not those of the tests")
	}
	if paths, got := fstree.AllPaths(small()); !slices.Equal(paths, smallPaths()) || got != success {
		t.Errorf("AllPaths = %q, %v", paths, got)
	}
	for _, p := range []string{"/", longest, deepest} {
		if n, got := fstree.Lookup(treeOf(strings.TrimSuffix(p, "/")), p); got != success {
			t.Errorf("Lookup(%q) = %d, %v", p, n, got)
		}
	}
}

// TestMatch checks R6.1.
func TestMatch(t *testing.T) {
	stars := strings.Repeat("*", api.MaxPathBytes)
	marks := strings.Repeat("?", api.MaxPathBytes)
	cases := []struct {
		pattern, text string
		want          bool
	}{
		{"a*c", "abbc", true},
		{"a?c", "ac", false},

		{"", "", true},
		{"", "a", false},
		{"", "\x00", false},
		{"a", "", false},
		{"a", "a", true},
		{"a", "b", false},
		{"a", "A", false},
		{"abc", "abc", true},
		{"abc", "ab", false},
		{"abc", "bc", false},
		{"ab", "abc", false},
		{"bc", "abc", false},
		{"b", "abc", false},
		{"abc", "abd", false},
		{"abc", "xbc", false},

		{"*", "", true},
		{"*", "a", true},
		{"*", "abc", true},
		{"*", "/a/b", true},
		{"*", "\x00\n\xff", true},
		{"**", "", true},
		{"***", "abc", true},
		{"*c", "abc", true},
		{"*c", "c", true},
		{"*c", "", false},
		{"*c", "cb", false},
		{"a*", "abc", true},
		{"a*", "a", true},
		{"a*", "", false},
		{"a*", "ba", false},
		{"a*c", "ac", true},
		{"a*c", "abcd", false},
		{"a*c", "a", false},
		{"a*c", "c", false},
		{"a*a", "a", false},
		{"a*a", "aa", true},
		{"ab*ba", "aba", false},
		{"ab*ba", "abba", true},
		{"a**c", "ac", true},
		{"a**c", "abbc", true},
		{"a***c", "abbd", false},
		{"*b*", "abc", true},
		{"*b*", "b", true},
		{"*b*", "ac", false},
		{"**b**", "abc", true},
		{"/*", "/a/b", true},
		{"/*/b", "/a/a/b", true},
		{"/*/b", "/b", false},

		{"?", "", false},
		{"?", "a", true},
		{"?", "ab", false},
		{"?", "/", true},
		{"?", "?", true},
		{"?", "*", true},
		{"?", "\x00", true},
		{"?", "\n", true},
		{"??", "a", false},
		{"??", "ab", true},
		{"a?", "a", false},
		{"a?", "ab", true},
		{"a?", "abc", false},
		{"?b", "ab", true},
		{"?b", "b", false},
		{"a?c", "abc", true},
		{"a?c", "abbc", false},
		{"ab?", "ab", false},
		{"ab??", "abc", false},
		{"*?", "", false},
		{"*?", "a", true},
		{"*?", "abc", true},
		{"?*", "", false},
		{"?*", "a", true},
		{"?*?", "a", false},
		{"?*?", "ab", true},
		{"*?*", "", false},
		{"*?*?*", "a", false},
		{"*?*?*", "ab", true},
		{"a*?c", "ac", false},
		{"a*?c", "abc", true},
		{"*c?", "abc", false},
		{"*c?", "abcc", true},

		{"*", "*", true},
		{"*a", "*a", true},
		{"a", "*", false},
		{"a", "?", false},
		{"ab", "a*", false},
		{"ab", "a?", false},
		{"a*b", "a*b", true},
		{"a?b", "a?b", true},

		{"*ab", "aab", true},
		{"*ab", "abab", true},
		{"*ab", "aba", false},
		{"*aab", "aaaab", true},
		{"*abac", "ababac", true},
		{"*abcabd*", "abcabcabd", true},
		{"a*b*c", "abcbc", true},
		{"a*b*c", "acbbb", false},
		{"a*b?d", "abxbcd", true},
		{"a*b?d", "abcdd", false},
		{"*a*a*", "aba", true},
		{"*a*a*", "bab", false},
		{"*ab*ab", "abab", true},
		{"*ab*ab", "abaab", true},
		{"*ab*ab", "ab", false},
		{"*?a", "aa", true},
		{"*?a", "a", false},
		{"*issip*", "mississippi", true},
		{"m*issip?*ss", "mississippi", false},
		{"*b*a*c", "abacb", false},

		{"\xff", "\xff", true},
		{"\xff", "\xfe", false},
		{"?", "\xff", true},
		{"?", "\x80", true},
		{"\xff*\xfe", "\xff\x80\x81\xfe", true},
		{"*\xa9", "\u00e9", true},
		{"?", "\u00e9", false},
		{"??", "\u00e9", true},
		{"\xc3?", "\u00e9", true},
		{"\u00e9", "\u00e9", true},
		{"\u00e9", "e\u0301", false},
		{"\xff", "\xfd", false},
		{"\ufffd", "\xff", false},
		{"\xff", "\ufffd", false},

		{"[a-c]", "b", false},
		{"[a-c]", "[a-c]", true},
		{"\\*", "*", false},
		{"\\*", "\\a", true},
		{"{a,b}", "a", false},
		{".", "a", false},
		{"a+", "aa", false},
		{"!a", "b", false},
		{"^a$", "a", false},

		{full, full, true},
		{full, full[1:], false},
		{full[1:], full, false},
		{full[1:] + "b", full, false},
		{"b" + full[1:], full, false},
		{full, full[1:] + "b", false},
		{full[1:] + "*", full, true},
		{full[1:] + "?", full[1:] + "b", true},
		{"*" + full[1:], full, true},
		{"?" + full[1:], "b" + full[1:], true},
		{"*", full, true},
		{full, "", false},
		{"", full, false},
		{stars, "", true},
		{stars, full, true},
		{marks, full, true},
		{marks, full[1:], false},
		{marks[1:], full, false},
		{marks[1:] + "*", full, true},
		{stars[1:] + "b", full, false},
		{strings.Repeat("*a", 50), full, true},
		{strings.Repeat("a*", 50), full, true},
		{strings.Repeat("*?", 50), full[:50], true},
		{strings.Repeat("*?", 50), full[:49], false},
	}
	for _, c := range cases {
		if ok, got := glob.Match(c.pattern, c.text); ok != c.want || got != success {
			t.Errorf("Match(%q, %q) = %v, %v, want %v", c.pattern, c.text, ok, got, c.want)
		}
	}
}

// TestMatchErrors checks the errors of R6.1, and that pattern is checked first.
func TestMatchErrors(t *testing.T) {
	cases := []struct {
		pattern, text string
		index         int
	}{
		{tooLong, "", 0},
		{tooLong, "a", 0},
		{tooLong, full, 0},
		{tooLong, tooLong, 0},
		{tooLong[1:] + "*", full, 0},
		{strings.Repeat("*", 101), "", 0},
		{strings.Repeat("*", 101), full, 0},
		{strings.Repeat("?", 101), tooLong, 0},
		{strings.Repeat("\u00e9", 51), "", 0},
		{strings.Repeat("a", 1<<20), strings.Repeat("a", 1<<20), 0},
		{"", tooLong, 1},
		{"*", tooLong, 1},
		{"a*", tooLong, 1},
		{full, tooLong, 1},
		{full[1:] + "*", tooLong, 1},
		{"*", strings.Repeat("\u00e9", 51), 1},
		{"*", strings.Repeat("a", 1<<20), 1},
	}
	for _, c := range cases {
		if ok, got := glob.Match(c.pattern, c.text); ok || got != fault(api.ErrTooMany, c.index) {
			t.Errorf("Match(%.110q, %.110q) = %v, %v, want the index %d", c.pattern, c.text, ok, got, c.index)
		}
	}
}

// inTime fails the test if call does not end soon.
func inTime(t *testing.T, about string, call func()) {
	t.Helper()
	done := make(chan bool)
	go func() {
		defer close(done)
		call()
	}()
	select {
	case <-done:
	case <-time.After(20 * time.Second):
		t.Fatalf("%s: no result in 20 seconds", about)
	}
}

// TestMatchTime checks that R6.1 takes little time for patterns of many stars
// and long texts that do not match.
func TestMatchTime(t *testing.T) {
	cases := []struct{ pattern, text string }{
		{strings.Repeat("*a", 49) + "*b", full},
		{strings.Repeat("a*", 49) + "b", full},
		{strings.Repeat("*?", 49) + "*b", full},
		{strings.Repeat("*a", 25) + strings.Repeat("b*", 25), full},
		{strings.Repeat("*", 99) + "b", full},
		{strings.Repeat("*aa", 33) + "b", full},
		{strings.Repeat("*ab", 33) + "*", strings.Repeat("ab", 32) + strings.Repeat("a", 36)},
		{strings.Repeat("**?", 33) + "b", strings.Repeat("ab", 49) + "aa"},
	}
	for _, c := range cases {
		inTime(t, c.pattern, func() {
			for range 1000 {
				if ok, got := glob.Match(c.pattern, c.text); ok || got != success {
					t.Errorf("Match(%q, %q) = %v, %v", c.pattern, c.text, ok, got)
					return
				}
			}
		})
	}
}

// compareFind compares the result of Find with the paths that are wanted,
// separated by spaces.
func compareFind(t *testing.T, tested api.Tree, pattern, want string) {
	t.Helper()
	if paths, got := glob.Find(tested, pattern); !slices.Equal(paths, strings.Fields(want)) || got != success {
		t.Errorf("Find(%q) = %q, %v, want %q", pattern, paths, got, want)
	}
}

// TestFindElements checks R6.2 for patterns without the element "**".
func TestFindElements(t *testing.T) {
	cases := []struct{ pattern, want string }{
		{"/", "/"},
		{"//", "/"},
		{strings.Repeat("/", api.MaxPathBytes), "/"},
		{"/a", "/a"},
		{"/a/", "/a"},
		{"//a", "/a"},
		{"///a///", "/a"},
		{"/ab", "/ab"},
		{"/ab/", "/ab"},
		{"/x.y", "/x.y"},
		{"/a/b", "/a/b"},
		{"/a//b", "/a/b"},
		{"//a//b//", "/a/b"},
		{"/a/b/c", "/a/b/c"},
		{"/a/b/c/", "/a/b/c"},
		{"/a/c", "/a/c"},
		{"/c", ""},
		{"/A", ""},
		{"/abc", ""},
		{"/a/b/c/d", ""},
		{"/a/c/b", ""},
		{"/b/c", ""},
		{"/b/b", ""},
		{"/b/a/b", ""},
		{"/ab/c", ""},
		{"/x", ""},
		{"/.y", ""},

		{"/*", "/a /ab /b /x.y"},
		{"/*/", "/a /ab /b /x.y"},
		{"//*", "/a /ab /b /x.y"},
		{"/*/*", "/a/b /a/c /b/a"},
		{"/*//*/", "/a/b /a/c /b/a"},
		{"/*/*/*", "/a/b/c /b/a/c"},
		{"/*/*/*/*", ""},
		{"/a/*", "/a/b /a/c"},
		{"/*/a", "/b/a"},
		{"/*/c", "/a/c"},
		{"/*/*/c", "/a/b/c /b/a/c"},
		{"/a/*/c", "/a/b/c"},
		{"/*/b/*", "/a/b/c"},
		{"/ab/*", ""},
		{"/a*", "/a /ab"},
		{"/*b", "/ab /b"},
		{"/*.*", "/x.y"},
		{"/*a*", "/a /ab"},
		{"/*a*b*", "/ab"},
		{"/*/*c", "/a/c"},
		{"/a*c", ""},
		{"/a*b*c", ""},
		{"/*c", ""},
		{"/?", "/a /b"},
		{"/??", "/ab"},
		{"/???", "/x.y"},
		{"/????", ""},
		{"/a?", "/ab"},
		{"/?b", "/ab"},
		{"/x?y", "/x.y"},
		{"/?/?", "/a/b /a/c /b/a"},
		{"/?/?/?", "/a/b/c /b/a/c"},
		{"/?*", "/a /ab /b /x.y"},
		{"/?*?", "/ab /x.y"},
		{"/a?b", ""},
		{"/a?c", ""},
		{"/?a", ""},

		{"/.", ""},
		{"/..", ""},
		{"/./a", ""},
		{"/a/.", ""},
		{"/a/../a", ""},
		{"/a/b/..", ""},
		{"/ a", ""},
		{"/a ", ""},
		{"/a\x00", ""},
		{"/a\n", ""},
		{"/\xff", ""},
		{"/a\xff/b", ""},
		{"/\u00e9*", ""},
		{"/[ab]", ""},
		{"/\\a", ""},
		{"/" + full[1:], ""},
		{"/*" + strings.Repeat("/", 98), "/a /ab /b /x.y"},
		{"/" + strings.Repeat("*", 99), "/a /ab /b /x.y"},
		{strings.Repeat("/*", 50), ""},
	}
	for _, c := range cases {
		compareFind(t, small(), c.pattern, c.want)
	}
}

// TestFindRuns checks R6.2 for patterns with the element "**".
func TestFindRuns(t *testing.T) {
	all := strings.Join(smallPaths(), " ")
	cases := []struct{ pattern, want string }{
		{"/**", all},
		{"/**/", all},
		{"//**", all},
		{"/**/**", all},
		{"/**//**/**", all},
		{"/**" + strings.Repeat("/**", 32), all},

		{"/**/c", "/a/b/c /a/c /b/a/c"},
		{"/**/a", "/a /b/a"},
		{"/**/b", "/a/b /b"},
		{"/**/ab", "/ab"},
		{"/**/b/c", "/a/b/c"},
		{"/**/a/c", "/a/c /b/a/c"},
		{"/**/**/c", "/a/b/c /a/c /b/a/c"},
		{"/**/x", ""},
		{"/a/**", "/a /a/b /a/b/c /a/c"},
		{"/a/**/", "/a /a/b /a/b/c /a/c"},
		{"/b/**", "/b /b/a /b/a/c"},
		{"/ab/**", "/ab"},
		{"/a/b/**", "/a/b /a/b/c"},
		{"/a/b/c/**", "/a/b/c"},
		{"/a/**/**", "/a /a/b /a/b/c /a/c"},
		{"/x/**", ""},
		{"/a/**/c", "/a/b/c /a/c"},
		{"/b/**/c", "/b/a/c"},
		{"/a/**/b", "/a/b"},
		{"/a/**/a", ""},
		{"/a/**/**/c", "/a/b/c /a/c"},
		{"/a/**/b/**/c", "/a/b/c"},
		{"/**/a/**", "/a /a/b /a/b/c /a/c /b/a /b/a/c"},
		{"/**/b/**", "/a/b /a/b/c /b /b/a /b/a/c"},
		{"/**/a/**/c", "/a/b/c /a/c /b/a/c"},
		{"/**/b/**/c", "/a/b/c /b/a/c"},
		{"/**/c/**", "/a/b/c /a/c /b/a/c"},
		{"/**/c/*", ""},
		{"/**/c/**/c", ""},
		{"/**/a/b/**", "/a/b /a/b/c"},

		{"/**/*", "/a /a/b /a/b/c /a/c /ab /b /b/a /b/a/c /x.y"},
		{"/*/**", "/a /a/b /a/b/c /a/c /ab /b /b/a /b/a/c /x.y"},
		{"/**/*/**", "/a /a/b /a/b/c /a/c /ab /b /b/a /b/a/c /x.y"},
		{"/*/**/*", "/a/b /a/b/c /a/c /b/a /b/a/c"},
		{"/**/*/*", "/a/b /a/b/c /a/c /b/a /b/a/c"},
		{"/**/*/**/*/**/*", "/a/b/c /b/a/c"},
		{"/**/*/**/*/**/*/**/*", ""},
		{"/**/?", "/a /a/b /a/b/c /a/c /b /b/a /b/a/c"},
		{"/**/??", "/ab"},
		{"/**/*b", "/a/b /ab /b"},
		{"/**/*.*", "/x.y"},
		{"/a*/**", "/a /a/b /a/b/c /a/c /ab"},

		{"/***", "/a /ab /b /x.y"},
		{"/****", "/a /ab /b /x.y"},
		{"/**b", "/ab /b"},
		{"/a**", "/a /ab"},
		{"/**.**", "/x.y"},
		{"/a**b", "/ab"},
		{"/**?", "/a /ab /b /x.y"},
		{"/?**", "/a /ab /b /x.y"},
		{"/a**/c", "/a/c"},
		{"/**c", ""},
		{"/a**c", ""},
		{"/**a/c", "/a/c"},
		{"/***/c", "/a/c"},
		{"/**/***", "/a /a/b /a/b/c /a/c /ab /b /b/a /b/a/c /x.y"},
		{"/***/***", "/a/b /a/c /b/a"},
		{"/* */c", ""},
	}
	for _, c := range cases {
		compareFind(t, small(), c.pattern, c.want)
	}
}

// TestFindTrees checks R6.2 for other trees.
func TestFindTrees(t *testing.T) {
	document := treeOf("/a/b/c")
	twins := tree(dir("f", 1, "g", 1, "h", 2), file(1), dir("f", 1, "i", 1))
	crossed := treeOf("/a/b", "/a-/b", "/a.b/b", "/a0", "/aa/b", "/B/b", "/_/b")
	repeats := treeOf("/a/b/a/b/a/c", "/a/b/a/c", "/b/a/b/a/b")
	cases := []struct {
		about         string
		tree          api.Tree
		pattern, want string
	}{
		{"the document's example", document, "/a/**/c", "/a/b/c"},
		{"the document's other example", document, "/a/*", "/a/b"},
		{"an empty root", tree(dir()), "/", "/"},
		{"an empty root and any path", tree(dir()), "/**", "/"},
		{"an empty root and any component", tree(dir()), "/*", ""},
		{"an empty root and any path of a component", tree(dir()), "/**/*", ""},
		{"free inodes", tree(dir("f", 3), api.Inode{}, api.Inode{}, file(1), api.Inode{}), "/**", "/ /f"},
		{"all names of a file", twins, "/**/?", "/f /g /h /h/f /h/i"},
		{"two names of a file in two directories", twins, "/**/f", "/f /h/f"},
		{"one name of a file", twins, "/g", "/g"},
		{"names of a file below a directory", twins, "/h/*", "/h/f /h/i"},
		{"paths in the order of bytes, not of components", crossed, "/**/b", "/B/b /_/b /a-/b /a.b/b /a/b /aa/b"},
		{"all paths in the order of bytes", crossed, "/a*/**", "/a /a- /a-/b /a.b /a.b/b /a/b /a0 /aa /aa/b"},
		{"upper case", crossed, "/B", "/B"},
		{"a star that gives components back", repeats, "/**/b/a/c", "/a/b/a/b/a/c /a/b/a/c"},
		{"two stars that give components back", repeats, "/**/a/b/**/a/c", "/a/b/a/b/a/c /a/b/a/c"},
		{"a repeated directory", repeats, "/**/b/**/b", "/a/b/a/b /b/a/b /b/a/b/a/b"},
		{"a star that takes nothing", repeats, "/a/**/b/*/b", "/a/b/a/b"},
		{"a star that leaves too little", repeats, "/a/**/b/**/b/c", ""},
		{"a path of MaxPathBytes bytes", treeOf(longest), longest, longest},
		{"a path of MaxPathBytes bytes and a star for its first name", treeOf(longest), "/*" + longest[12:], longest},
		{"a path of MaxPathBytes bytes and any path", treeOf(longest), "/**" + longest[87:], longest[:61] + " " + longest[:74] + " " + longest[:87] + " " + longest},
		{"a path of MaxDepth components", treeOf(deepest), strings.Repeat("/*", 8), deepest},
		{"an element more than MaxDepth", treeOf(deepest), strings.Repeat("/*", 9), ""},
		{"any path and MaxDepth elements", treeOf(deepest), "/**" + deepest, deepest},
		{"any path and an element more than MaxDepth", treeOf(deepest), "/**" + deepest + "/a", ""},
		{"the lower paths of a chain", treeOf(deepest), "/a/**/a/a/a/a/a/**/a", deepest[:14] + " " + deepest},
		{"names of other bytes", treeOf("/-", "/.a", "/_"), "/?", "/- /_"},
		{"a name that begins with a dot", treeOf("/.a", "/..."), "/*", "/... /.a"},
	}
	for _, c := range cases {
		t.Run(c.about, func(t *testing.T) { compareFind(t, c.tree, c.pattern, c.want) })
	}
}

// invalidTrees are trees for the errors of fstree.Validate, in their order.
func invalidTrees() []struct {
	about string
	tree  api.Tree
	fault api.Fault
} {
	beside := func(inode api.Inode) api.Tree { return tree(dir("f", 1), inode) }
	many := dir()
	for i := range api.MaxDirEntries + 1 {
		many.Entries = append(many.Entries, api.DirEntry{Name: fmt.Sprintf("e%02d", i), Inode: 1})
	}
	return []struct {
		about string
		tree  api.Tree
		fault api.Fault
	}{
		{"no inodes", tree(), fault(api.ErrNotFound, 0)},
		{"an inode too many", tree(append([]api.Inode{dir()}, make([]api.Inode, api.MaxInodes)...)...), fault(api.ErrTooMany, 0)},
		{"a file as the root", tree(file(1)), fault(api.ErrWrongType, 0)},
		{"a free root", tree(api.Inode{}), fault(api.ErrWrongType, 0)},
		{"an unknown kind", beside(api.Inode{Kind: 3}), fault(api.ErrKind, 1)},
		{"a free inode with an owner", tree(dir(), api.Inode{}, api.Inode{Owner: 1}), fault(api.ErrMalformed, 2)},
		{"a wrong owner", beside(api.Inode{Kind: api.KindFile, Owner: 8}), fault(api.ErrRange, 1)},
		{"a file with a quota", beside(api.Inode{Kind: api.KindFile, Quota: 1}), fault(api.ErrMalformed, 1)},
		{"too much data", beside(file(api.MaxFileBytes + 1)), fault(api.ErrTooLarge, 1)},
		{"permissions for no user", beside(api.Inode{Kind: api.KindFile, ACL: []api.ACLEntry{{User: 8, Allow: 1}}}), fault(api.ErrRange, 1)},
		{"an attribute without a name", beside(api.Inode{Kind: api.KindFile, Attrs: []api.Attr{{Value: "v"}}}), fault(api.ErrName, 1)},
		{"too many entries", tree(many, file(1)), fault(api.ErrTooMany, 0)},
		{"a star as a name", tree(dir("d", 1), dir("*", 2), file(1)), fault(api.ErrName, 1)},
		{"names that are not sorted", tree(dir("d", 1), dir("b", 2, "a", 2), file(1)), fault(api.ErrMalformed, 1)},
		{"an entry for no inode", tree(dir("d", 1), dir("b", 2)), fault(api.ErrRange, 1)},
		{"a file without a name", tree(dir(), api.Inode{}, file(1)), fault(api.ErrState, 2)},
		{"a directory with two names", tree(dir("a", 1, "b", 1), dir()), fault(api.ErrState, 1)},
		{"a cycle", tree(dir(), dir("a", 2), dir("b", 1)), fault(api.ErrState, 1)},
		{"a path that is too deep", treeOf(deepest + "/a"), fault(api.ErrTooLarge, 9)},
		{"a path that is too long", treeOf("/n" + longest[1:]), fault(api.ErrTooLarge, 8)},
		{"a quota that is exceeded", tree(dir("d", 1), api.Inode{Kind: api.KindDir, Entries: dir("f", 2).Entries, Quota: 1}, file(2)), fault(api.ErrNoSpace, 1)},
	}
}

// TestFindErrors checks the errors of R6.2 and their order: those of the tree,
// then the length of the pattern, then its first byte.
func TestFindErrors(t *testing.T) {
	check := func(about string, tested api.Tree, pattern string, want api.Fault) {
		t.Helper()
		if paths, got := glob.Find(tested, pattern); len(paths) != 0 || got != want {
			t.Errorf("%s: Find(%.110q) = %q, %v, want %v", about, pattern, paths, got, want)
		}
	}
	long := []string{
		tooLong, "/" + full, "/**" + strings.Repeat("/", 98), strings.Repeat("/", 101), strings.Repeat("*", 101),
		strings.Repeat("\u00e9", 51), "/" + strings.Repeat("\u00e9", 50), strings.Repeat("/**", 1<<18), strings.Repeat("a", 1<<20),
	}
	rootless := []string{"", "a", "a/", "a/b", "*", "**", "**/a", "?", "?a", ".", " /a", "\\a", "\x00/a", "\xaf/a", "\uff0fa", full, strings.Repeat("*", 100), "*/" + full[2:]}
	valid := []api.Tree{tree(dir()), small(), treeOf(deepest)}
	for _, tested := range valid {
		for _, pattern := range long {
			check("a valid tree", tested, pattern, fault(api.ErrTooMany, -1))
		}
		for _, pattern := range rootless {
			check("a valid tree", tested, pattern, fault(api.ErrMalformed, -1))
		}
	}
	for _, c := range invalidTrees() {
		for _, pattern := range slices.Concat([]string{"/", "/**", "/x"}, long, rootless) {
			check(c.about, c.tree, pattern, c.fault)
		}
	}
}

// largest returns a valid tree of as many paths as there can be: 38 directories
// beside the root, most of them deep, and a file in all of their other entries.
func largest() api.Tree {
	t := treeOf(deepest[:14], "/b/a/a/a/a/a/a", "/a/b/a/a/a/a/a", "/a/a/b/a/a/a/a", "/b/b/a/a/a/a/a", "/b/a/b/a/a/a/a", "/a/a/a/b/a/a/a")
	t.Inodes = t.Inodes[:min(len(t.Inodes), api.MaxInodes-1)]
	last := len(t.Inodes)
	for n := range t.Inodes {
		d := &t.Inodes[n]
		d.Entries = slices.DeleteFunc(d.Entries, func(e api.DirEntry) bool { return e.Inode >= last })
		for _, name := range strings.Split("0123456789cdefgh", "") {
			if len(d.Entries) < api.MaxDirEntries {
				add(&t, n, name, last)
			}
		}
	}
	t.Inodes = append(t.Inodes, file(1))
	return t
}

// TestFindTime checks that R6.2 takes little time for patterns of many stars
// and a tree of many deep paths.
func TestFindTime(t *testing.T) {
	tested := largest()
	if all, got := glob.Find(tested, "/**"); len(all) != 39*16+1 || got != success {
		t.Fatalf("Find = %d paths, %v", len(all), got)
	}
	for _, pattern := range []string{
		strings.Repeat("/**", 32) + "/x",
		strings.Repeat("/**/?", 19) + "/x",
		strings.Repeat("/**/*", 7) + "/**/x",
		strings.Repeat("/**/a", 7) + "/**/x",
		strings.Repeat("/**/*?*", 6) + "/**/" + strings.Repeat("*?", 20) + "x",
		"/**/" + strings.Repeat("*a", 47) + "x",
	} {
		inTime(t, pattern, func() {
			for range 20 {
				compareFind(t, tested, pattern, "")
			}
		})
	}
}
