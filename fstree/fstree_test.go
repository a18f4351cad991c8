package fstree_test

import (
	"fmt"
	"math"
	"slices"
	"strings"
	"testing"

	"farshelf/api"
	"farshelf/fstree"
)

var (
	success   = api.Fault{}
	noInodes  = api.Fault{Code: api.ErrNotFound}
	tooMany   = api.Fault{Code: api.ErrTooMany}
	noRoot    = api.Fault{Code: api.ErrWrongType}
	noInode   = api.Fault{Code: api.ErrRange, Index: -1}
	longName  = strings.Repeat("n", api.MaxNameBytes)
	allowRead = []api.ACLEntry{{User: 1, Allow: api.PermRead}}
)

func fault(code, index int) api.Fault { return api.Fault{Code: code, Index: index} }

// dir returns a directory whose entries have the given names, each followed by
// the number of its inode.
func dir(texts ...any) api.Inode {
	inode := api.Inode{Kind: api.KindDir}
	for i := 0; i+1 < len(texts); i += 2 {
		inode.Entries = append(inode.Entries, api.DirEntry{Name: texts[i].(string), Inode: texts[i+1].(int)})
	}
	return inode
}

// file returns a file of n bytes.
func file(n int) api.Inode {
	inode := api.Inode{Kind: api.KindFile}
	for i := range n {
		inode.Data = append(inode.Data, byte(i))
	}
	return inode
}

// limited returns inode with a quota.
func limited(quota int, inode api.Inode) api.Inode {
	inode.Quota = quota
	return inode
}

func tree(inodes ...api.Inode) api.Tree { return api.Tree{Inodes: inodes} }

// cloneTree returns a tree that shares no memory with t.
func cloneTree(t api.Tree) api.Tree {
	clone := api.Tree{Inodes: slices.Clone(t.Inodes)}
	for i := range clone.Inodes {
		inode := &clone.Inodes[i]
		inode.Entries, inode.Data = slices.Clone(inode.Entries), slices.Clone(inode.Data)
		inode.ACL, inode.Attrs = slices.Clone(inode.ACL), slices.Clone(inode.Attrs)
	}
	return clone
}

// changed returns t with one of its inodes changed.
func changed(t api.Tree, n int, change func(inode *api.Inode)) api.Tree {
	clone := cloneTree(t)
	change(&clone.Inodes[n])
	return clone
}

// small is a tree with nested directories, a file with names in two of them,
// a free inode and fields that are not zero.
func small() api.Tree {
	return tree(
		api.Inode{Kind: api.KindDir, Entries: dir("a", 1, "b", 4, "g", 5).Entries, Quota: 100, Version: 3},
		api.Inode{Kind: api.KindDir, Owner: 2, Entries: dir("d", 6, "f", 3, "h", 5).Entries, ACL: allowRead, Quota: 50},
		api.Inode{},
		api.Inode{Kind: api.KindFile, Owner: 7, Data: []byte{1, 2, 3}, Attrs: []api.Attr{{Name: "k", Value: "v"}}, Version: 9},
		dir(),
		file(10),
		dir("h", 5),
	)
}

// wide returns a directory whose n entries all have the same inode.
func wide(n, inode int) api.Inode {
	d := dir()
	for i := range n {
		d.Entries = append(d.Entries, api.DirEntry{Name: fmt.Sprintf("e%02d", i), Inode: inode})
	}
	return d
}

// flat returns a tree of n directories, at most 273, which fill one directory
// after the other.
func flat(n int) api.Tree {
	t := tree(dir())
	for len(t.Inodes) < n {
		d := &t.Inodes[(len(t.Inodes)-1)/api.MaxDirEntries]
		d.Entries = append(d.Entries, api.DirEntry{Name: fmt.Sprintf("e%02d", len(d.Entries)), Inode: len(t.Inodes)})
		t.Inodes = append(t.Inodes, dir())
	}
	return t
}

// chain returns a tree with one path for every depth, of the given names.
func chain(last api.Inode, names ...string) api.Tree {
	t := tree()
	for i, name := range names {
		t.Inodes = append(t.Inodes, dir(name, i+1))
	}
	t.Inodes = append(t.Inodes, last)
	return t
}

// letters returns n names of one letter.
func letters(n int) []string { return strings.Split(strings.Repeat("a", n), "") }

// sized returns 8 names whose path has n bytes, at most 104.
func sized(n int) []string {
	var names []string
	for rest := n - 8; len(names) < 8; {
		length := (rest + 7 - len(names)) / (8 - len(names))
		names = append(names, strings.Repeat("n", length))
		rest -= length
	}
	return names
}

// TestFixtures keeps the inputs at the limits they are meant to probe.
func TestFixtures(t *testing.T) {
	if len(longName) != 12 || api.MaxInodes != 40 || api.MaxDirEntries != 16 || api.MaxFileBytes != 200 || len(flat(41).Inodes) != 41 {
		t.Error("the limits are not those of the tests")
	}
	for _, n := range []int{16, 99, 100, 101, 104} {
		if names := sized(n); len("/"+strings.Join(names, "/")) != n || len(names) != 8 {
			t.Errorf("sized(%d) = %q", n, names)
		}
	}
}

// validTrees are trees without an error.
func validTrees() map[string]api.Tree {
	full := changed(small(), 3, func(inode *api.Inode) {
		inode.ACL = slices.Repeat(allowRead, api.MaxACLEntries)
		inode.Attrs = []api.Attr{{Name: "A", Value: "1"}, {Name: "B", Value: "1"}, {Name: "_", Value: "1"}, {Name: "a", Value: "1"}, {Name: "b", Value: "1"}, {Name: longName, Value: strings.Repeat("v", api.MaxAttrBytes)}}
	})
	return map[string]api.Tree{
		"an empty root":                               tree(dir()),
		"an empty root with all fields":               tree(api.Inode{Kind: api.KindDir, Owner: 7, ACL: allowRead, Attrs: []api.Attr{{Name: "k", Value: "v"}}, Quota: 1, Version: 5}),
		"a small tree":                                small(),
		"full lists":                                  full,
		"empty lists that are not nil":                tree(api.Inode{Kind: api.KindDir, Entries: []api.DirEntry{}, Data: []byte{}, ACL: []api.ACLEntry{}, Attrs: []api.Attr{}}, api.Inode{Entries: []api.DirEntry{}, Data: []byte{}, ACL: []api.ACLEntry{}, Attrs: []api.Attr{}}),
		"only free inodes beside the root":            tree(dir(), api.Inode{}, api.Inode{}),
		"free inodes between others":                  tree(dir("a", 2, "b", 4), api.Inode{}, dir(), api.Inode{}, file(1), api.Inode{}),
		"MaxInodes inodes":                            flat(api.MaxInodes),
		"MaxInodes inodes, most of them free":         tree(append([]api.Inode{dir("z", 39)}, append(make([]api.Inode, 38), file(1))...)...),
		"MaxDirEntries entries of one file":           tree(wide(api.MaxDirEntries, 1), file(200)),
		"a file of MaxFileBytes bytes":                tree(dir("f", 1), file(api.MaxFileBytes)),
		"an empty file":                               tree(dir("f", 1), file(0)),
		"a child with a smaller number":               tree(dir("z", 3), file(1), dir("f", 1), dir("d", 2)),
		"names in the order of bytes":                 tree(dir("-", 1, ".x", 1, "0", 1, "10", 1, "9", 1, "A", 1, "Z", 1, "_", 1, "a", 1, "a-", 1, "a.", 1, "a0", 1, "aa", 1), file(1)),
		"the longest name":                            tree(dir(longName[1:], 1, longName, 1), file(1)),
		"the same names in several directories":       tree(dir("a", 1, "b", 2), dir("a", 3, "b", 4), dir("a", 3, "b", 4), file(1), file(1)),
		"MaxDepth components to a file":               chain(file(1), letters(api.MaxDepth)...),
		"MaxDepth components to a directory":          chain(dir(), letters(api.MaxDepth)...),
		"MaxPathBytes bytes to a file":                chain(file(1), sized(api.MaxPathBytes)...),
		"MaxPathBytes bytes to a directory":           chain(dir(), sized(api.MaxPathBytes)...),
		"a quota of the root that is met":             tree(limited(3, dir("f", 1)), file(3)),
		"a quota that is met":                         tree(dir("d", 1), limited(3, dir("f", 2)), file(3)),
		"a quota that is not met":                     tree(dir("d", 1), limited(4, dir("f", 2)), file(3)),
		"a quota that is met far below":               tree(limited(5, dir("d", 1, "f", 4)), limited(3, dir("e", 2)), limited(3, dir("f", 3)), file(3), file(2)),
		"a quota, and a file with two names below":    tree(dir("d", 1), limited(3, dir("e", 2, "f", 3)), dir("g", 3), file(3)),
		"a quota, and a file with two names in it":    tree(dir("d", 1), limited(3, dir("f", 2, "g", 2)), file(3)),
		"a quota of another directory":                tree(dir("d", 1, "f", 2), limited(1, dir()), file(200)),
		"a quota below a directory with much in it":   tree(dir("d", 1, "f", 3), limited(2, dir("g", 2)), file(2), file(200)),
		"the largest quota":                           tree(limited(api.MaxQuota, dir("f", 1)), file(200)),
		"many full files":                             fullFiles(0),
		"a quota of the root that many files meet":    fullFiles(37 * 200),
		"an access control list with a repeated user": tree(api.Inode{Kind: api.KindDir, ACL: slices.Repeat(allowRead, 2)}),
	}
}

// fullFiles returns a tree of MaxInodes inodes, 37 of them files that are full,
// with a quota of the root.
func fullFiles(quota int) api.Tree {
	t := flat(api.MaxInodes)
	for i, inode := range t.Inodes {
		if len(inode.Entries) == 0 {
			t.Inodes[i] = file(api.MaxFileBytes)
		}
	}
	t.Inodes[0].Quota = quota
	return t
}

// TestValidateAccepts checks R4.1 for valid trees.
func TestValidateAccepts(t *testing.T) {
	for about, valid := range validTrees() {
		if got := fstree.Validate(valid); got != success {
			t.Errorf("%s: Validate = %v", about, got)
		}
	}
}

// invalidTree is a tree with its error.
type invalidTree struct {
	about string
	tree  api.Tree
	fault api.Fault
}

// invalidTrees are trees for the errors of R4.1, and so of all functions.
func invalidTrees() []invalidTree {
	return slices.Concat(wholeTrees(), invalidInodes(), invalidEntries(), invalidReferences(), invalidPaths(), invalidQuotas())
}

// wholeTrees are trees for the first errors of R4.1.
func wholeTrees() []invalidTree {
	return []invalidTree{
		{"nothing", api.Tree{}, noInodes},
		{"no inodes", tree([]api.Inode{}...), noInodes},
		{"one inode too many", flat(api.MaxInodes + 1), tooMany},
		{"one free inode too many", tree(append([]api.Inode{dir()}, make([]api.Inode, api.MaxInodes)...)...), tooMany},
		{"far too many inodes", api.Tree{Inodes: make([]api.Inode, 100000)}, tooMany},
		{"a free root", tree(api.Inode{}), noRoot},
		{"a file as the root", tree(file(1)), noRoot},
		{"a root of an unknown kind", tree(api.Inode{Kind: 3}), noRoot},
		{"a root of a negative kind", tree(api.Inode{Kind: -1}), noRoot},
		{"a directory, but not in inode 0", tree(api.Inode{}, dir()), noRoot},
		{"too many, a file as the root", tree(append([]api.Inode{file(1)}, make([]api.Inode, api.MaxInodes)...)...), tooMany},
		{"too many, an unknown kind", tree(append([]api.Inode{dir(), {Kind: 9}}, make([]api.Inode, api.MaxInodes)...)...), tooMany},
		{"a root that is a file with a wrong owner", tree(api.Inode{Kind: api.KindFile, Owner: 9}), noRoot},
		{"a free root with data", tree(api.Inode{Data: []byte{1}}), noRoot},
		{"a file as the root, an unknown kind", tree(file(1), api.Inode{Kind: 9}), noRoot},
	}
}

// invalidInodes are trees with an error in the fields of inodes.
func invalidInodes() []invalidTree {
	inode := func(inode api.Inode) api.Tree { return tree(dir("f", 1), inode) }
	return []invalidTree{
		{"an unknown kind", inode(api.Inode{Kind: 3}), fault(api.ErrKind, 1)},
		{"a negative kind", inode(api.Inode{Kind: -1}), fault(api.ErrKind, 1)},
		{"the kind of a link", inode(api.Inode{Kind: api.KindLink}), fault(api.ErrKind, 1)},
		{"an unknown kind that nothing refers to", tree(dir(), api.Inode{}, api.Inode{Kind: math.MaxInt}), fault(api.ErrKind, 2)},

		{"a free inode with an owner", tree(dir(), api.Inode{Owner: 1}), fault(api.ErrMalformed, 1)},
		{"a free inode with a wrong owner", tree(dir(), api.Inode{Owner: -1}), fault(api.ErrMalformed, 1)},
		{"a free inode with entries", tree(dir("f", 2), api.Inode{Entries: dir("f", 2).Entries}, file(1)), fault(api.ErrMalformed, 1)},
		{"a free inode with data", tree(dir(), api.Inode{}, api.Inode{Data: []byte{0}}), fault(api.ErrMalformed, 2)},
		{"a free inode with an access control list", tree(dir(), api.Inode{ACL: allowRead}), fault(api.ErrMalformed, 1)},
		{"a free inode with attributes", tree(dir(), api.Inode{Attrs: []api.Attr{{Name: "k", Value: "v"}}}), fault(api.ErrMalformed, 1)},
		{"a free inode with a quota", tree(dir(), api.Inode{Quota: 1}), fault(api.ErrMalformed, 1)},
		{"a free inode with a negative quota", tree(dir(), api.Inode{Quota: -1}), fault(api.ErrMalformed, 1)},
		{"a free inode with a version", tree(dir(), api.Inode{Version: 1}), fault(api.ErrMalformed, 1)},
		{"a free inode with a negative version", tree(dir(), api.Inode{Version: -1}), fault(api.ErrMalformed, 1)},
		{"a free inode with too much data", tree(dir(), api.Inode{Data: make([]byte, 1000)}), fault(api.ErrMalformed, 1)},
		{"a free inode with a wrong list", tree(dir(), api.Inode{ACL: []api.ACLEntry{{User: 99}}}), fault(api.ErrMalformed, 1)},

		{"a directory with data", inode(api.Inode{Kind: api.KindDir, Data: []byte{0}}), fault(api.ErrMalformed, 1)},
		{"a directory with too much data", inode(api.Inode{Kind: api.KindDir, Data: make([]byte, 201)}), fault(api.ErrMalformed, 1)},
		{"a root with data", tree(api.Inode{Kind: api.KindDir, Data: []byte{0}}), fault(api.ErrMalformed, 0)},
		{"a file with an entry", tree(dir("f", 1), api.Inode{Kind: api.KindFile, Entries: dir("g", 2).Entries}, file(1)), fault(api.ErrMalformed, 1)},
		{"a file with a wrong entry", inode(api.Inode{Kind: api.KindFile, Entries: dir("", 99).Entries}), fault(api.ErrMalformed, 1)},
		{"a file with too many entries", inode(api.Inode{Kind: api.KindFile, Entries: wide(17, 1).Entries}), fault(api.ErrMalformed, 1)},
		{"a file with a quota", inode(limited(1, file(1))), fault(api.ErrMalformed, 1)},

		{"a file of one byte too many", inode(file(api.MaxFileBytes + 1)), fault(api.ErrTooLarge, 1)},
		{"a file of far too many bytes", inode(file(100000)), fault(api.ErrTooLarge, 1)},

		{"too many permissions", inode(api.Inode{Kind: api.KindFile, ACL: slices.Repeat(allowRead, 7)}), fault(api.ErrTooMany, 1)},
		{"permissions for no user", inode(api.Inode{Kind: api.KindFile, ACL: []api.ACLEntry{{User: 8, Allow: 1}}}), fault(api.ErrRange, 1)},
		{"permissions for no user in a later entry", inode(api.Inode{Kind: api.KindDir, ACL: []api.ACLEntry{{User: 7, Allow: 1}, {User: 7, Deny: 1}, {User: -2, Allow: 1}}}), fault(api.ErrRange, 1)},
		{"no permissions", inode(api.Inode{Kind: api.KindDir, ACL: []api.ACLEntry{{User: 7}}}), fault(api.ErrMalformed, 1)},
		{"a root with permissions allowed and denied", tree(api.Inode{Kind: api.KindDir, ACL: []api.ACLEntry{{User: 7, Allow: 1, Deny: 1}}}), fault(api.ErrMalformed, 0)},

		{"too many attributes", inode(api.Inode{Kind: api.KindDir, Attrs: slices.Repeat([]api.Attr{{Name: "k", Value: "v"}}, 7)}), fault(api.ErrTooMany, 1)},
		{"an attribute without a name", inode(api.Inode{Kind: api.KindFile, Attrs: []api.Attr{{Value: "v"}}}), fault(api.ErrName, 1)},
		{"an attribute of too many bytes", inode(api.Inode{Kind: api.KindFile, Attrs: []api.Attr{{Name: "k", Value: strings.Repeat("v", 21)}}}), fault(api.ErrTooLarge, 1)},
		{"an attribute without a value", inode(api.Inode{Kind: api.KindDir, Attrs: []api.Attr{{Name: "j", Value: "v"}, {Name: "k"}}}), fault(api.ErrMalformed, 1)},
		{"attributes that are not sorted in the root", tree(api.Inode{Kind: api.KindDir, Attrs: []api.Attr{{Name: "k", Value: "v"}, {Name: "j", Value: "v"}}}), fault(api.ErrMalformed, 0)},

		{"a wrong kind in inode 1, a wrong owner in inode 2", tree(dir("a", 1, "b", 2), api.Inode{Kind: 3}, api.Inode{Kind: api.KindFile, Owner: 8}), fault(api.ErrKind, 1)},
		{"a wrong owner in inode 1, a wrong kind in inode 2", tree(dir("a", 1, "b", 2), api.Inode{Kind: api.KindFile, Owner: 8}, api.Inode{Kind: 3}), fault(api.ErrRange, 1)},
		{"wrong attributes in the root, a wrong kind in inode 1", tree(api.Inode{Kind: api.KindDir, Attrs: make([]api.Attr, 1)}, api.Inode{Kind: 3}), fault(api.ErrName, 0)},
		{"an entry for a file of too many bytes", tree(dir("a", 1, "b", 2), dir("b", 2), file(201)), fault(api.ErrTooLarge, 2)},
		{"a wrong entry in the root, a wrong kind in inode 1", tree(dir("", 1), api.Inode{Kind: 3}), fault(api.ErrName, 0)},
		{"a wrong kind in inode 1, a wrong entry in inode 2", tree(dir("a", 1, "b", 2), api.Inode{Kind: 3}, dir("", 1)), fault(api.ErrKind, 1)},
	}
}

// invalidEntries are trees with an error in the entries of directories.
func invalidEntries() []invalidTree {
	return []invalidTree{
		{"one entry too many", tree(wide(api.MaxDirEntries+1, 1), file(1)), fault(api.ErrTooMany, 0)},
		{"one entry too many below", tree(dir("d", 1), wide(api.MaxDirEntries+1, 2), file(1)), fault(api.ErrTooMany, 1)},
		{"far too many entries", tree(wide(10000, 1), file(1)), fault(api.ErrTooMany, 0)},
		{"too many entries, all of them wrong", tree(api.Inode{Kind: api.KindDir, Entries: make([]api.DirEntry, 17)}), fault(api.ErrTooMany, 0)},

		{"an entry without a name", tree(dir("", 1), file(1)), fault(api.ErrName, 0)},
		{"a dot", tree(dir(".", 1), file(1)), fault(api.ErrName, 0)},
		{"two dots", tree(dir("..", 1), file(1)), fault(api.ErrName, 0)},
		{"a slash in a name", tree(dir("a/b", 1), file(1)), fault(api.ErrName, 0)},
		{"a name that is too long", tree(dir(longName+"n", 1), file(1)), fault(api.ErrName, 0)},
		{"a wrong name in a later entry below", tree(dir("d", 1), dir("a", 2, "b", 2, "c d", 2), file(1)), fault(api.ErrName, 1)},

		{"a name twice", tree(dir("f", 1, "f", 1), file(1)), fault(api.ErrMalformed, 0)},
		{"a name twice, for two files", tree(dir("f", 1, "f", 2), file(1), file(1)), fault(api.ErrMalformed, 0)},
		{"a smaller name", tree(dir("g", 1, "f", 1), file(1)), fault(api.ErrMalformed, 0)},
		{"a smaller name below", tree(dir("d", 1), dir("a", 2, "c", 2, "b", 2), file(1)), fault(api.ErrMalformed, 1)},
		{"a name like the first", tree(dir("a", 1, "b", 1, "a", 1), file(1)), fault(api.ErrMalformed, 0)},
		{"an upper case letter after a lower case one", tree(dir("a", 1, "B", 1), file(1)), fault(api.ErrMalformed, 0)},
		{"a prefix after the longer name", tree(dir("aa", 1, "a", 1), file(1)), fault(api.ErrMalformed, 0)},
		{"names in the order of numbers", tree(dir("9", 1, "10", 1), file(1)), fault(api.ErrMalformed, 0)},

		{"an entry for the root", tree(dir("d", 0)), fault(api.ErrRange, 0)},
		{"an entry for the root below", tree(dir("d", 1), dir("e", 0)), fault(api.ErrRange, 1)},
		{"an entry for a free inode", tree(dir("f", 1), api.Inode{}), fault(api.ErrRange, 0)},
		{"an entry for a free inode with a smaller number", tree(dir("d", 2), api.Inode{}, dir("f", 1)), fault(api.ErrRange, 2)},
		{"an entry for a free inode that is not empty", tree(dir("f", 1), api.Inode{Owner: 1}), fault(api.ErrRange, 0)},
		{"an entry for the inode behind the last", tree(dir("f", 1)), fault(api.ErrRange, 0)},
		{"an entry for the inode behind the last of many", tree(dir("f", 2), file(1)), fault(api.ErrRange, 0)},
		{"an entry for an inode far behind the last", tree(dir("f", math.MaxInt)), fault(api.ErrRange, 0)},
		{"an entry for inode -1", tree(dir("f", -1)), fault(api.ErrRange, 0)},
		{"an entry for a negative inode", tree(dir("f", math.MinInt)), fault(api.ErrRange, 0)},
		{"an entry for no inode in the last of three", tree(dir("d", 1), dir("a", 2, "b", 2, "c", 3), file(1)), fault(api.ErrRange, 1)},
		{"an entry of a directory that nothing refers to", tree(dir(), dir("a", 9)), fault(api.ErrRange, 1)},

		{"a wrong name for no inode", tree(dir("/", 9)), fault(api.ErrName, 0)},
		{"a smaller wrong name", tree(dir("b", 1, "a b", 1), file(1)), fault(api.ErrName, 0)},
		{"a smaller name for no inode", tree(dir("b", 1, "a", 9), file(1)), fault(api.ErrMalformed, 0)},
		{"an entry for no inode, then a wrong name", tree(dir("a", 9, "/", 1), file(1)), fault(api.ErrRange, 0)},
		{"an entry for no inode, then the same name", tree(dir("a", 9, "a", 1), file(1)), fault(api.ErrRange, 0)},
		{"the same name, then a wrong name", tree(dir("a", 1, "a", 1, "/", 1), file(1)), fault(api.ErrMalformed, 0)},
		{"a wrong name, then an entry for no inode", tree(dir("/", 1, "a", 9), file(1)), fault(api.ErrName, 0)},
		{"an entry for no inode in two directories", tree(dir("a", 1), dir("b", 9), dir("b", -9)), fault(api.ErrRange, 1)},
	}
}

// invalidReferences are trees with a wrong number of references.
func invalidReferences() []invalidTree {
	return []invalidTree{
		{"a directory with two entries in one directory", tree(dir("d", 1, "e", 1), dir()), fault(api.ErrState, 1)},
		{"a directory with two entries in two directories", tree(dir("d", 1, "e", 2), dir(), dir("d", 1)), fault(api.ErrState, 1)},
		{"a directory with an entry in itself as well", tree(dir("d", 1), dir("e", 1)), fault(api.ErrState, 1)},
		{"a directory with three entries", tree(dir("a", 2, "b", 2, "c", 2), api.Inode{}, dir()), fault(api.ErrState, 2)},
		{"a directory with an entry that no path reaches as well", tree(dir("d", 2), dir("e", 1, "f", 2), dir()), fault(api.ErrState, 2)},
		{"a directory with no entry", tree(dir(), dir()), fault(api.ErrState, 1)},
		{"a directory with no entry that has some", tree(dir(), dir("d", 2), dir()), fault(api.ErrState, 1)},
		{"a file with no entry", tree(dir(), file(1)), fault(api.ErrState, 1)},
		{"a file with no entry among others", tree(dir("f", 1, "g", 3), file(1), file(1), file(1)), fault(api.ErrState, 2)},
		{"a directory with two entries and one with none", tree(dir("a", 2, "b", 2), dir(), dir()), fault(api.ErrState, 1)},
		{"a directory with none and one with two entries", tree(dir("a", 1, "b", 1), dir(), dir()), fault(api.ErrState, 1)},
		{"a file with no entry, then a directory with two", tree(dir("a", 2, "b", 2), file(1), dir()), fault(api.ErrState, 1)},
		{"a directory with two entries, then a file with none", tree(dir("a", 1, "b", 1), dir(), file(1)), fault(api.ErrState, 1)},

		{"a reference too many, then a wrong kind", tree(dir("d", 1, "e", 1), dir(), api.Inode{Kind: 3}), fault(api.ErrKind, 2)},
		{"a file with no entry, then an entry for no inode", tree(dir("d", 2), file(1), dir("e", 9)), fault(api.ErrRange, 2)},
		{"a cycle in inodes 1 and 2, then a file with no entry", tree(dir(), dir("d", 2), dir("d", 1), file(1)), fault(api.ErrState, 3)},
		{"a path that is too long to inode 1, then a file with no entry", tree(append([]api.Inode{dir("a", 3), file(1), file(1)}, deepTo(1)...)...), fault(api.ErrState, 2)},
		{"a quota of the root that is exceeded, then a file with no entry", tree(limited(1, dir("f", 1)), file(2), file(0)), fault(api.ErrState, 2)},
	}
}

// shifted returns the inodes of a tree for a place behind n others.
func shifted(t api.Tree, n int) []api.Inode {
	inodes := cloneTree(t).Inodes
	for _, inode := range inodes {
		for i := range inode.Entries {
			inode.Entries[i].Inode += n
		}
	}
	return inodes
}

// invalidPaths are trees with an inode that has no path or too long a one.
func invalidPaths() []invalidTree {
	twoNames := chain(dir("f", 9), letters(8)...)
	twoNames.Inodes = append(twoNames.Inodes, file(1))
	twoNames.Inodes[0] = dir("a", 1, "f", 9)
	return []invalidTree{
		{"a directory in itself", tree(dir(), dir("d", 1)), fault(api.ErrState, 1)},
		{"two directories in each other", tree(dir("f", 1), file(1), dir("d", 3), dir("d", 2)), fault(api.ErrState, 2)},
		{"a file in a directory in itself", tree(dir(), file(1), dir("d", 2, "f", 1)), fault(api.ErrState, 1)},
		{"a directory in a directory in itself", tree(dir(), dir(), dir("d", 2, "e", 1)), fault(api.ErrState, 1)},
		{"a cycle of all others", tree(append([]api.Inode{dir()}, ring(39)...)...), fault(api.ErrState, 1)},
		{"a file that a cycle has a name for as well", tree(dir("f", 1), file(1), dir("d", 2, "f", 1)), fault(api.ErrState, 2)},

		{"one component too many to a file", chain(file(1), letters(9)...), fault(api.ErrTooLarge, 9)},
		{"one component too many to a directory", chain(dir(), letters(9)...), fault(api.ErrTooLarge, 9)},
		{"far too many components", chain(file(1), letters(39)...), fault(api.ErrTooLarge, 9)},
		{"one byte too many to a file", chain(file(1), sized(101)...), fault(api.ErrTooLarge, 8)},
		{"one byte too many to a directory", chain(dir(), sized(101)...), fault(api.ErrTooLarge, 8)},
		{"four bytes too many", chain(dir(), sized(104)...), fault(api.ErrTooLarge, 8)},
		{"too many bytes and components", chain(dir(), slices.Repeat([]string{longName}, 39)...), fault(api.ErrTooLarge, 8)},
		{"one of two paths is too long", twoNames, fault(api.ErrTooLarge, 9)},
		{"the smallest number is reported, not the shortest path", tree(append([]api.Inode{dir("a", 3), file(1), dir("f", 1)}, deepTo(2)...)...), fault(api.ErrTooLarge, 1)},

		{"a cycle, then a path that is too long", tree(append([]api.Inode{dir("a", 2), dir("d", 1)}, shifted(chain(dir(), letters(8)...), 2)...)...), fault(api.ErrState, 1)},
		{"a path that is too long, then a cycle", tree(append(chain(dir(), letters(9)...).Inodes, dir("d", 10))...), fault(api.ErrTooLarge, 9)},
		{"a quota of the root that is exceeded, then a cycle", tree(limited(1, dir("f", 1)), file(2), dir("d", 2)), fault(api.ErrState, 2)},
		{"a quota of the root that is exceeded, and a path that is too long", changed(chain(file(2), letters(9)...), 0, func(inode *api.Inode) { inode.Quota = 1 }), fault(api.ErrTooLarge, 9)},
	}
}

// ring returns n directories from inode 1, each of them in the preceding one.
func ring(n int) []api.Inode {
	var inodes []api.Inode
	for i := range n {
		inodes = append(inodes, dir("d", 1+(i+1)%n))
	}
	return inodes
}

// deepTo returns directories from inode 3, each of them in the preceding one,
// and inode n in the last. If inode 3 is in the root, n has 9 components.
func deepTo(n int) []api.Inode {
	return append(shifted(chain(dir(), letters(7)...), 3)[:7], dir("a", n))
}

// invalidQuotas are trees with a quota that is exceeded.
func invalidQuotas() []invalidTree {
	return []invalidTree{
		{"a quota of the root, exceeded by one byte", tree(limited(2, dir("f", 1)), file(3)), fault(api.ErrNoSpace, 0)},
		{"a quota exceeded by one byte", tree(dir("d", 1), limited(2, dir("f", 2)), file(3)), fault(api.ErrNoSpace, 1)},
		{"a quota exceeded by two files", tree(dir("d", 1), limited(5, dir("f", 2, "g", 3)), file(3), file(3)), fault(api.ErrNoSpace, 1)},
		{"a quota exceeded by two equal files", tree(dir("d", 1), limited(1, dir("f", 2, "g", 3)), file(1), file(1)), fault(api.ErrNoSpace, 1)},
		{"a quota exceeded far below", tree(limited(2, dir("d", 1)), dir("e", 2), dir("f", 3), file(3)), fault(api.ErrNoSpace, 0)},
		{"a quota exceeded by a file with a name elsewhere", tree(dir("d", 1, "f", 2), limited(2, dir("g", 2)), file(3)), fault(api.ErrNoSpace, 1)},
		{"two quotas that one file exceeds", tree(dir("a", 1, "b", 2), limited(2, dir("f", 3)), limited(2, dir("f", 3)), file(3)), fault(api.ErrNoSpace, 1)},
		{"the smallest number is reported, not the uppermost", tree(dir("a", 2), limited(2, dir("f", 3)), limited(2, dir("b", 1)), file(3)), fault(api.ErrNoSpace, 1)},
		{"only the upper quota is exceeded", tree(dir("a", 2), limited(3, dir("f", 3)), limited(5, dir("b", 1, "g", 4)), file(3), file(3)), fault(api.ErrNoSpace, 2)},
		{"the root's quota is exceeded by the sum", tree(limited(399, dir("a", 1, "b", 2)), file(200), file(200)), fault(api.ErrNoSpace, 0)},
		{"the root's quota is one byte too small for many files", fullFiles(37*200 - 1), fault(api.ErrNoSpace, 0)},
	}
}

// TestInvalidTrees checks the errors of R4.1 and their order, and that the
// other functions have the same ones, before their own.
func TestInvalidTrees(t *testing.T) {
	for _, c := range invalidTrees() {
		if got := fstree.Validate(c.tree); got != c.fault {
			t.Errorf("%s: Validate = %v, want %v", c.about, got, c.fault)
		}
		for _, p := range []string{"/", "/a", "/a/b", "", "a", "/a//b", strings.Repeat("/", 101)} {
			if n, got := fstree.Lookup(c.tree, p); n != 0 || got != c.fault {
				t.Errorf("%s: Lookup of %q = %d, %v, want %v", c.about, p, n, got, c.fault)
			}
		}
		for _, n := range []int{-1, 0, 1, 2, len(c.tree.Inodes), math.MaxInt} {
			if paths, got := fstree.PathsOf(c.tree, n); len(paths) != 0 || got != c.fault {
				t.Errorf("%s: PathsOf inode %d = %q, %v, want %v", c.about, n, paths, got, c.fault)
			}
		}
		if paths, got := fstree.AllPaths(c.tree); len(paths) != 0 || got != c.fault {
			t.Errorf("%s: AllPaths = %q, %v, want %v", c.about, paths, got, c.fault)
		}
	}
}

// TestNumbers checks R4.1 for each number at its bounds and one beyond them.
func TestNumbers(t *testing.T) {
	fields := []struct {
		about string
		limit int
		set   func(inode *api.Inode, number int)
	}{
		{"owner", api.MaxUser, func(inode *api.Inode, number int) { inode.Owner = number }},
		{"version", api.MaxValue, func(inode *api.Inode, number int) { inode.Version = number }},
		{"quota", api.MaxQuota, func(inode *api.Inode, number int) { inode.Quota = number }},
	}
	for _, field := range fields {
		for _, number := range []int{math.MinInt, -1, 0, 1, field.limit - 1, field.limit, field.limit + 1, math.MaxInt} {
			for n, inode := range []api.Inode{dir("d", 1, "f", 2), dir(), file(0)} {
				want := success
				switch {
				case number < 0 || number > field.limit:
					want = fault(api.ErrRange, n)
				case field.about == "quota" && inode.Kind == api.KindFile && number > 0:
					want = fault(api.ErrMalformed, n)
				}
				base := tree(dir("d", 1, "f", 2), dir(), file(0))
				wrong := changed(base, n, func(inode *api.Inode) { field.set(inode, number) })
				if got := fstree.Validate(wrong); got != want {
					t.Errorf("%s %d in inode %d: Validate = %v, want %v", field.about, number, n, got, want)
				}
			}
		}
	}
}

// TestEntryNames checks R4.1 for every byte of a name, and for every length.
func TestEntryNames(t *testing.T) {
	const inNames = "abcdefghijklmnopqrstuvwxyzABCDEFGHIJKLMNOPQRSTUVWXYZ0123456789._-"
	wants := map[string]api.Fault{}
	for c := range 256 {
		want := fault(api.ErrName, 0)
		if strings.IndexByte(inNames, byte(c)) >= 0 {
			want = success
		}
		wants["x"+string([]byte{byte(c)})] = want
		wants[string([]byte{byte(c)})+"x"] = want
	}
	for n := range 40 {
		wants[strings.Repeat("n", n)] = success
		if n < 1 || n > 12 {
			wants[strings.Repeat("n", n)] = fault(api.ErrName, 0)
		}
	}
	for name, want := range wants {
		if got := fstree.Validate(tree(dir(name, 1), file(1))); got != want {
			t.Errorf("the name %q: Validate = %v, want %v", name, got, want)
		}
	}
}

// flaw is an error that an inode is given.
type flaw struct {
	code int
	add  func(inode *api.Inode)
}

// sharedFlaws are the errors that directories and files may both have, before
// and after those that depend on the kind.
func sharedFlaws() (before, after []flaw) {
	before = []flaw{
		{api.ErrKind, func(inode *api.Inode) { inode.Kind = 3 }},
		{api.ErrRange, func(inode *api.Inode) { inode.Owner = 8 }},
		{api.ErrRange, func(inode *api.Inode) { inode.Version = -1 }},
		{api.ErrRange, func(inode *api.Inode) { inode.Quota = -1 }},
	}
	after = []flaw{
		{api.ErrTooMany, func(inode *api.Inode) { inode.ACL = slices.Repeat(allowRead, 7) }},
		{api.ErrRange, func(inode *api.Inode) { inode.ACL = []api.ACLEntry{{User: 8}} }},
		{api.ErrMalformed, func(inode *api.Inode) { inode.ACL = []api.ACLEntry{{User: 1}} }},
		{api.ErrTooMany, func(inode *api.Inode) { inode.Attrs = make([]api.Attr, 7) }},
		{api.ErrName, func(inode *api.Inode) { inode.Attrs = make([]api.Attr, 1) }},
		{api.ErrTooLarge, func(inode *api.Inode) { inode.Attrs = []api.Attr{{Name: "k", Value: longName + longName}} }},
		{api.ErrMalformed, func(inode *api.Inode) { inode.Attrs = []api.Attr{{Name: "k"}} }},
	}
	return before, after
}

// dirFlaws returns the errors of a directory in the order of their checks.
func dirFlaws() []flaw {
	before, after := sharedFlaws()
	own := []flaw{{api.ErrMalformed, func(inode *api.Inode) { inode.Data = []byte{1} }}}
	entries := []flaw{
		{api.ErrTooMany, func(inode *api.Inode) { inode.Entries = make([]api.DirEntry, 17) }},
		{api.ErrName, func(inode *api.Inode) { inode.Entries = dir("x", 3, "", 0).Entries }},
		{api.ErrMalformed, func(inode *api.Inode) { inode.Entries = dir("x", 3, "x", 0).Entries }},
		{api.ErrRange, func(inode *api.Inode) { inode.Entries = dir("x", 3, "y", 0).Entries }},
	}
	return slices.Concat(before, own, after, entries)
}

// fileFlaws returns the errors of a file in the order of their checks.
func fileFlaws() []flaw {
	before, after := sharedFlaws()
	own := []flaw{
		{api.ErrMalformed, func(inode *api.Inode) { inode.Entries = dir("x", 3).Entries }},
		{api.ErrMalformed, func(inode *api.Inode) { inode.Quota = 1 }},
		{api.ErrTooLarge, func(inode *api.Inode) { inode.Data = make([]byte, 201) }},
	}
	return slices.Concat(before, own, after)
}

// TestFlawOrder checks the order of the errors in R4.1: in one inode the error
// that is checked first is reported, and in two that of the smaller number.
func TestFlawOrder(t *testing.T) {
	base := tree(dir("d", 1, "f", 2), dir("x", 3), file(1), file(1))
	check := func(about string, wrong api.Tree, want api.Fault) {
		t.Helper()
		if got := fstree.Validate(wrong); got != want {
			t.Errorf("%s: Validate = %v, want %v", about, got, want)
		}
	}
	for n, flaws := range map[int][]flaw{1: dirFlaws(), 2: fileFlaws()} {
		for i, first := range flaws {
			for j, second := range flaws[i:] {
				// The first one is added last, so that it is there in any case.
				both := changed(changed(base, n, second.add), n, first.add)
				check(fmt.Sprintf("flaws %d and %d of inode %d", i, i+j, n), both, fault(first.code, n))
			}
		}
	}
	for i, inDir := range dirFlaws() {
		for j, inFile := range fileFlaws() {
			both := changed(changed(base, 1, inDir.add), 2, inFile.add)
			check(fmt.Sprintf("flaw %d of inode 1 and %d of inode 2", i, j), both, fault(inDir.code, 1))
		}
	}
}

// TestStepOrder checks the order of the steps of R4.1: the error of a step is
// reported though a later step has one for an inode with a smaller number.
func TestStepOrder(t *testing.T) {
	steps := []struct {
		about string
		fault api.Fault
		add   func(t *api.Tree)
	}{
		{"an owner of a free inode", fault(api.ErrMalformed, 6), func(t *api.Tree) { t.Inodes[6].Owner = 1 }},
		{"a file with no entry", fault(api.ErrState, 5), func(t *api.Tree) { t.Inodes[5] = file(0) }},
		{"a cycle", fault(api.ErrState, 3), func(t *api.Tree) {
			t.Inodes[0].Entries = t.Inodes[0].Entries[:1]
			t.Inodes[4].Entries = dir("d", 3).Entries
		}},
		{"a quota that is exceeded", fault(api.ErrNoSpace, 0), func(t *api.Tree) { t.Inodes[0].Quota = 3 }},
	}
	for i, first := range steps {
		for _, second := range steps[i:] {
			wrong := tree(dir("d", 1, "e", 3), dir("f", 2), file(4), dir("c", 4), dir(), api.Inode{}, api.Inode{})
			if got := fstree.Validate(wrong); got != success {
				t.Fatalf("Validate = %v", got)
			}
			first.add(&wrong)
			second.add(&wrong)
			if got := fstree.Validate(wrong); got != first.fault {
				t.Errorf("%s, and %s: Validate = %v, want %v", first.about, second.about, got, first.fault)
			}
		}
	}
}

// TestLookup checks R4.2.
func TestLookup(t *testing.T) {
	document := tree(dir("a", 1), dir())
	cases := []struct {
		about string
		tree  api.Tree
		path  string
		n     int
		fault api.Fault
	}{
		{"the root", small(), "/", 0, success},
		{"a directory", small(), "/a", 1, success},
		{"an empty directory", small(), "/b", 4, success},
		{"a file", small(), "/g", 5, success},
		{"another name", small(), "/a/h", 5, success},
		{"a third name", small(), "/a/d/h", 5, success},
		{"a file below", small(), "/a/f", 3, success},
		{"a directory below", small(), "/a/d", 6, success},
		{"the last of many entries", tree(wide(16, 1), file(1)), "/e15", 1, success},
		{"a path of MaxDepth components", chain(file(1), letters(8)...), "/a/a/a/a/a/a/a/a", 8, success},
		{"a path of MaxPathBytes bytes", chain(file(1), sized(100)...), "/" + strings.Join(sized(100), "/"), 8, success},

		{"the document's example", document, "/a/b", 0, fault(api.ErrNotFound, 1)},
		{"nothing in an empty root", tree(dir()), "/a", 0, fault(api.ErrNotFound, 0)},
		{"nothing far below an empty root", tree(dir()), "/a/b/c", 0, fault(api.ErrNotFound, 0)},
		{"a smaller name than all", small(), "/Z", 0, fault(api.ErrNotFound, 0)},
		{"a name between others", small(), "/c", 0, fault(api.ErrNotFound, 0)},
		{"a greater name than all", small(), "/z", 0, fault(api.ErrNotFound, 0)},
		{"a longer name", small(), "/aa", 0, fault(api.ErrNotFound, 0)},
		{"a shorter name", tree(dir("aa", 1), file(1)), "/a", 0, fault(api.ErrNotFound, 0)},
		{"an upper case name", small(), "/A", 0, fault(api.ErrNotFound, 0)},
		{"a name of another directory", small(), "/b/h", 0, fault(api.ErrNotFound, 1)},
		{"nothing in an empty directory", small(), "/b/x/y", 0, fault(api.ErrNotFound, 1)},
		{"nothing below", small(), "/a/d/x", 0, fault(api.ErrNotFound, 2)},
		{"below a file", small(), "/g/x", 0, fault(api.ErrWrongType, 1)},
		{"far below a file", small(), "/g/x/y/z", 0, fault(api.ErrWrongType, 1)},
		{"below a file below", small(), "/a/f/x", 0, fault(api.ErrWrongType, 2)},
		{"below another name of a file", small(), "/a/d/h/x", 0, fault(api.ErrWrongType, 3)},
		{"the last component below a file", chain(file(1), letters(7)...), "/a/a/a/a/a/a/a/a", 0, fault(api.ErrWrongType, 7)},
		{"the last component in no directory", chain(dir(), letters(7)...), "/a/a/a/a/a/a/a/a", 0, fault(api.ErrNotFound, 7)},
	}
	for _, c := range cases {
		if n, got := fstree.Lookup(c.tree, c.path); n != c.n || got != c.fault {
			t.Errorf("%s: Lookup(%q) = %d, %v, want %d, %v", c.about, c.path, n, got, c.n, c.fault)
		}
	}
}

// TestLookupWrongPath checks the errors of R4.2 for what is not a path: they
// come before those of its components.
func TestLookupWrongPath(t *testing.T) {
	cases := []struct {
		path  string
		fault api.Fault
	}{
		{"", fault(api.ErrMalformed, -1)},
		{"a", fault(api.ErrMalformed, -1)},
		{"a/b", fault(api.ErrMalformed, -1)},
		{" /a", fault(api.ErrMalformed, -1)},
		{"//", fault(api.ErrName, -1)},
		{"/ ", fault(api.ErrName, -1)},
		{"//a", fault(api.ErrName, -1)},
		{"/a/", fault(api.ErrName, -2)},
		{"/a//b", fault(api.ErrName, -2)},
		{"/a/..", fault(api.ErrName, -2)},
		{"/./a", fault(api.ErrName, -1)},
		{"/a/b/c d/e f", fault(api.ErrName, -3)},
		{"/x/y/" + longName + "n", fault(api.ErrName, -3)},
		{"/g/x/\xff", fault(api.ErrName, -3)},
		{strings.Repeat("/a", 9), fault(api.ErrTooLarge, -1)},
		{strings.Repeat("/a", 50), fault(api.ErrTooLarge, -1)},
		{strings.Repeat("/a", 49) + "/.", fault(api.ErrName, -50)},
		{"/" + strings.Join(sized(101), "/"), fault(api.ErrTooMany, -1)},
		{strings.Repeat("/", 101), fault(api.ErrTooMany, -1)},
		{strings.Repeat("a", 101), fault(api.ErrTooMany, -1)},
		{strings.Repeat("/a", 1<<20), fault(api.ErrTooMany, -1)},
	}
	for _, c := range cases {
		for _, base := range []api.Tree{small(), tree(dir()), chain(file(1), letters(8)...)} {
			if n, got := fstree.Lookup(base, c.path); n != 0 || got != c.fault {
				t.Errorf("Lookup(%.120q) = %d, %v, want %v", c.path, n, got, c.fault)
			}
		}
	}
}

// TestPathsOf checks R4.3.
func TestPathsOf(t *testing.T) {
	crossed := tree(dir("a", 1, "a-", 2, "a.", 3), dir("b", 3), dir("c", 3), file(1))
	cases := []struct {
		about string
		tree  api.Tree
		n     int
		want  []string
	}{
		{"the root", tree(dir()), 0, []string{"/"}},
		{"the root of a larger tree", small(), 0, []string{"/"}},
		{"a directory", small(), 1, []string{"/a"}},
		{"a directory below", small(), 6, []string{"/a/d"}},
		{"an empty directory", small(), 4, []string{"/b"}},
		{"a file with one name", small(), 3, []string{"/a/f"}},
		{"a file with three names", small(), 5, []string{"/a/d/h", "/a/h", "/g"}},
		{"two names in one directory", tree(dir("f", 1, "g", 1), file(1)), 1, []string{"/f", "/g"}},
		{"paths in the order of bytes, not of components", crossed, 3, []string{"/a-/c", "/a.", "/a/b"}},
		{"a path of MaxPathBytes bytes", chain(file(1), sized(100)...), 8, []string{"/" + strings.Join(sized(100), "/")}},
	}
	for _, c := range cases {
		if paths, got := fstree.PathsOf(c.tree, c.n); !slices.Equal(paths, c.want) || got != success {
			t.Errorf("%s: PathsOf(%d) = %q, %v, want %q", c.about, c.n, paths, got, c.want)
		}
	}
}

// TestManyNames checks R4.3 and R4.4 for a file with as many names as there
// can be: in every directory of a tree that consists of it and directories.
func TestManyNames(t *testing.T) {
	many := flat(api.MaxInodes - 1)
	last := len(many.Inodes)
	many.Inodes = append(many.Inodes, file(1))
	var want []string
	for i := range many.Inodes[:last] {
		d := &many.Inodes[i]
		prefix := ""
		if own, _ := fstree.PathsOf(flat(last), i); i > 0 {
			prefix = own[0]
		}
		for k := len(d.Entries); k < api.MaxDirEntries; k++ {
			d.Entries = append(d.Entries, api.DirEntry{Name: fmt.Sprintf("f%02d", k), Inode: last})
			want = append(want, fmt.Sprintf("%s/f%02d", prefix, k))
		}
	}
	slices.Sort(want)
	paths, got := fstree.PathsOf(many, last)
	if !slices.Equal(paths, want) || got != success || len(want) != 39*16-38 {
		t.Errorf("PathsOf = %q, %v, want %d paths", paths, got, len(want))
	}
	if all, got := fstree.AllPaths(many); len(all) != 39*16+1 || !slices.IsSorted(all) || got != success {
		t.Errorf("AllPaths = %d paths, %v", len(all), got)
	}
}

// TestPathsOfErrors checks the error of R4.3 beside those of the tree.
func TestPathsOfErrors(t *testing.T) {
	cases := []struct {
		tree api.Tree
		n    int
	}{
		{tree(dir()), 1},
		{tree(dir()), -1},
		{tree(dir()), math.MaxInt},
		{tree(dir()), math.MinInt},
		{small(), 2},
		{small(), 7},
		{flat(api.MaxInodes), api.MaxInodes},
	}
	for _, c := range cases {
		if paths, got := fstree.PathsOf(c.tree, c.n); len(paths) != 0 || got != noInode {
			t.Errorf("PathsOf(%d) = %q, %v, want %v", c.n, paths, got, noInode)
		}
	}
}

// TestAllPaths checks R4.4.
func TestAllPaths(t *testing.T) {
	cases := []struct {
		about string
		tree  api.Tree
		want  []string
	}{
		{"an empty root", tree(dir()), []string{"/"}},
		{"an empty root and free inodes", tree(dir(), api.Inode{}), []string{"/"}},
		{"the document's example", tree(dir("a", 1), dir("f", 2), file(1)), []string{"/", "/a", "/a/f"}},
		{"a small tree", small(), []string{"/", "/a", "/a/d", "/a/d/h", "/a/f", "/a/h", "/b", "/g"}},
		{"a file with two names", tree(dir("f", 1, "g", 1), file(1)), []string{"/", "/f", "/g"}},
		{"a directory between names that begin like it", tree(dir("a", 1, "a-", 2, "a.b", 2, "a0", 2, "aa", 2), dir("b", 2), file(1)), []string{"/", "/a", "/a-", "/a.b", "/a/b", "/a0", "/aa"}},
		{"upper and lower case", tree(dir("B", 1, "_", 1, "a", 1), file(1)), []string{"/", "/B", "/_", "/a"}},
		{"a chain", chain(file(1), letters(3)...), []string{"/", "/a", "/a/a", "/a/a/a"}},
	}
	for _, c := range cases {
		if paths, got := fstree.AllPaths(c.tree); !slices.Equal(paths, c.want) || got != success {
			t.Errorf("%s: AllPaths = %q, %v, want %q", c.about, paths, got, c.want)
		}
	}
}
