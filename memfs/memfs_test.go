package memfs_test

import (
	"fmt"
	"slices"
	"strings"
	"testing"

	"farshelf/api"
	"farshelf/fstree"
	"farshelf/memfs"
)

const (
	rwx  = api.PermRead | api.PermWrite | api.PermSearch
	full = "0123456789abcdef" // a letter for each of MaxDirEntries entries
)

var (
	success   = api.Fault{}
	longName  = strings.Repeat("n", api.MaxNameBytes)
	longValue = strings.Repeat("v", api.MaxAttrBytes)
	deepest   = strings.Repeat("/a", api.MaxDepth)
	longest   = strings.Repeat("/"+longName[1:], 4) + strings.Repeat("/"+longName, 4)
)

func fault(code, index int) api.Fault { return api.Fault{Code: code, Index: index} }

func tree(inodes ...api.Inode) api.Tree { return api.Tree{Inodes: inodes} }

// dir returns a directory of an owner whose entries have the given names, each
// followed by the number of its inode.
func dir(owner int, texts ...any) api.Inode {
	inode := api.Inode{Kind: api.KindDir, Owner: owner}
	for i := 0; i+1 < len(texts); i += 2 {
		inode.Entries = append(inode.Entries, api.DirEntry{Name: texts[i].(string), Inode: texts[i+1].(int)})
	}
	return inode
}

// file returns a file of n bytes, none of which is zero.
func file(owner, n int) api.Inode {
	inode := api.Inode{Kind: api.KindFile, Owner: owner}
	for i := range n {
		inode.Data = append(inode.Data, byte(1+i))
	}
	return inode
}

// allowing returns inode with permissions for a user, or everyone.
func allowing(user, permissions int, inode api.Inode) api.Inode {
	inode.ACL = append(slices.Clone(inode.ACL), api.ACLEntry{User: user, Allow: permissions})
	return inode
}

// denying returns inode without permissions for a user, or everyone.
func denying(user, permissions int, inode api.Inode) api.Inode {
	inode.ACL = append(slices.Clone(inode.ACL), api.ACLEntry{User: user, Deny: permissions})
	return inode
}

// limited returns inode with a quota.
func limited(quota int, inode api.Inode) api.Inode {
	inode.Quota = quota
	return inode
}

// of returns inode with a version.
func of(version int, inode api.Inode) api.Inode {
	inode.Version = version
	return inode
}

// with returns a copy of t in which inode n is another one.
func with(t api.Tree, n int, inode api.Inode) api.Tree {
	clone := cloneTree(t)
	clone.Inodes[n] = inode
	return clone
}

// changed returns a copy of t in which inode n is changed.
func changed(t api.Tree, n int, change func(inode *api.Inode)) api.Tree {
	clone := cloneTree(t)
	change(&clone.Inodes[n])
	return clone
}

// cloneTree returns a tree that shares no memory with t.
func cloneTree(t api.Tree) api.Tree {
	clone := api.Tree{Inodes: slices.Clone(t.Inodes)}
	for i := range clone.Inodes {
		inode := &clone.Inodes[i]
		inode.Entries, inode.Data = slices.Clone(inode.Entries), slices.Clone(inode.Data)
		inode.ACL, inode.Attrs = slices.Clone(inode.ACL), slices.Clone(inode.Attrs)
	}
	return clone
}

// show returns values as text, with nil and empty lists alike.
func show(values ...any) string { return fmt.Sprintf("%+v", values) }

// home is a tree in which everyone may change the root and user 1 may change
// /a, /a/d and /z, but user 1 may not search /p. The file /f is /a/g too.
func home() api.Tree {
	return tree(
		of(3, allowing(-1, rwx, dir(0, "a", 1, "f", 3, "p", 6, "z", 7))),
		dir(1, "d", 4, "g", 3, "h", 5),
		api.Inode{},
		api.Inode{Kind: api.KindFile, Owner: 1, Data: []byte{1, 2, 3}, ACL: []api.ACLEntry{{User: 2, Allow: api.PermRead}}, Attrs: []api.Attr{{Name: "k", Value: "v"}}, Version: 9},
		limited(20, dir(1, "e", 8)),
		file(2, 10),
		dir(2, "q", 9),
		dir(1),
		of(api.MaxValue, file(1, 5)),
		file(1, 1),
		api.Inode{},
	)
}

// wide returns a directory with n entries for an inode, named as in full.
func wide(owner, n, inode int) api.Inode {
	d := dir(owner)
	for _, letter := range full[:n] {
		d.Entries = append(d.Entries, api.DirEntry{Name: string(letter), Inode: inode})
	}
	return d
}

// crowded is a tree of MaxInodes inodes of user 0: the directory /a is full of
// names of one file, /b and /c are full of files, and /d has room. Of the files
// from 6 on, those that are listed are free instead.
func crowded(unused ...int) api.Tree {
	t := tree(dir(0, "a", 1, "b", 2, "c", 3, "d", 4), wide(0, api.MaxDirEntries, 5), dir(0), dir(0), dir(0), file(0, 0))
	for n := len(t.Inodes); n < api.MaxInodes; n++ {
		inode := api.Inode{}
		if !slices.Contains(unused, n) {
			inode = file(0, 0)
			parent := &t.Inodes[2+(n-6)/api.MaxDirEntries]
			parent.Entries = append(parent.Entries, api.DirEntry{Name: full[(n-6)%len(full):][:1], Inode: n})
		}
		t.Inodes = append(t.Inodes, inode)
	}
	return t
}

// chain returns a tree with one path of the given components, of user 0, to an
// inode, and with the file /x.
func chain(last api.Inode, components ...string) api.Tree {
	t := tree()
	for i, component := range components {
		t.Inodes = append(t.Inodes, dir(0, component, i+1))
	}
	t.Inodes = append(t.Inodes, last, file(0, 0))
	t.Inodes[0].Entries = append(t.Inodes[0].Entries, api.DirEntry{Name: "x", Inode: len(components) + 1})
	return t
}

// letters returns n components of one letter.
func letters(n int) []string { return strings.Split(strings.Repeat("a", n), "") }

// TestFixtures keeps the inputs valid, and at the limits they are to probe.
func TestFixtures(t *testing.T) {
	if len(deepest) != 16 || len(longest) != api.MaxPathBytes || len(full) != api.MaxDirEntries {
		t.Error("the limits are not those of the tests")
	}
	for i, valid := range []api.Tree{home(), crowded(), crowded(6, 7, 39), chain(file(0, 1), "a", "b")} {
		if got := fstree.Validate(valid); got != success {
			t.Errorf("tree %d: Validate = %v", i, got)
		}
	}
	for n, entries := range []int{4, 16, 16, 16, 2} {
		if got := crowded(); len(got.Inodes) != api.MaxInodes || len(got.Inodes[n].Entries) != entries {
			t.Errorf("the crowded tree has %d entries in directory %d", len(got.Inodes[n].Entries), n)
		}
	}
}

// stat is a reply that describes an inode.
func stat(n, kind, owner, size, links, version int) api.Reply {
	return api.Reply{Stat: api.Stat{Inode: n, Kind: kind, Owner: owner, Size: size, Links: links, Version: version}}
}

// done is a request that succeeds.
type done struct {
	about   string
	tree    api.Tree
	request api.Request
	want    func(t *api.Tree) // changes the tree as the request should
	reply   api.Reply
}

// checkDone checks requests of a kind that succeed.
func checkDone(t *testing.T, kind int, cases []done) {
	t.Helper()
	for _, c := range cases {
		c.request.Kind = kind
		want := cloneTree(c.tree)
		if c.want != nil {
			c.want(&want)
		}
		after, reply, got := memfs.Apply(c.tree, c.request)
		if show(after, reply) != show(want, c.reply) || got != success {
			t.Errorf("%s: Apply = %+v, %+v, %v, want %+v, %+v", c.about, after, reply, got, want, c.reply)
		}
		if got := fstree.Validate(after); got != success {
			t.Errorf("%s: the tree has the error %v", c.about, got)
		}
	}
}

// refused is a request with the code that it is refused with.
type refused struct {
	about   string
	tree    api.Tree
	request api.Request
	code    int
}

// checkRefused checks requests of a kind that fail: the tree is as it was, and
// the reply holds only the code.
func checkRefused(t *testing.T, kind int, cases []refused) {
	t.Helper()
	for _, c := range cases {
		c.request.Kind = kind
		after, reply, got := memfs.Apply(c.tree, c.request)
		if show(after, reply) != show(c.tree, api.Reply{Code: c.code}) || got != success {
			t.Errorf("%s: Apply = %+v, %v, want code %d and the tree unchanged, %t", c.about, reply, got, c.code, show(after) == show(c.tree))
		}
	}
}

// by returns a request for a path, whose kind the checks set.
func by(user int, p string) api.Request { return api.Request{User: user, Path: p} }

// TestApplyFaults checks the faults of R5.2: those of the tree come before
// those of the request.
func TestApplyFaults(t *testing.T) {
	quotaExceeded := tree(dir(0, "d", 1), limited(2, dir(0, "f", 2)), file(0, 3))
	twoRoots := tree(dir(0), dir(0))
	wrongOwner := tree(dir(0, "f", 1), file(8, 0))
	good := api.Request{Kind: api.OpStat, Path: "/"}
	cases := []struct {
		about   string
		tree    api.Tree
		request api.Request
		fault   api.Fault
	}{
		{"no inodes", tree(), good, fault(api.ErrNotFound, 0)},
		{"too many inodes", tree(append(crowded().Inodes, api.Inode{})...), good, fault(api.ErrTooMany, 0)},
		{"a file as the root", tree(file(0, 1)), good, fault(api.ErrWrongType, 0)},
		{"a wrong owner", wrongOwner, good, fault(api.ErrRange, 1)},
		{"an inode without a name", twoRoots, good, fault(api.ErrState, 1)},
		{"a quota that is exceeded", quotaExceeded, good, fault(api.ErrNoSpace, 1)},
		{"a quota that is exceeded and not made worse", quotaExceeded, api.Request{Kind: api.OpTruncate, Path: "/d/f", Size: 1}, fault(api.ErrNoSpace, 1)},
		{"a request of no kind", home(), api.Request{Path: "/"}, fault(api.ErrKind, -1)},
		{"a request of a wrong user", home(), api.Request{Kind: api.OpStat, User: 8, Path: "/x"}, fault(api.ErrRange, -1)},
		{"a wrong request for nothing", home(), api.Request{Kind: api.OpRead, Path: "/x/y", Data: []byte{1}}, fault(api.ErrMalformed, -1)},
		{"no path", home(), api.Request{Kind: api.OpStat}, fault(api.ErrName, -1)},
		{"a wrong entry in a list", home(), api.Request{Kind: api.OpSetACL, Path: "/x", ACL: []api.ACLEntry{{User: 1, Allow: 1}, {}}}, fault(api.ErrMalformed, -1)},
		{"no inodes and no kind", tree(), api.Request{}, fault(api.ErrNotFound, 0)},
		{"a wrong owner and no kind", wrongOwner, api.Request{}, fault(api.ErrRange, 1)},
		{"a quota that is exceeded and no kind", quotaExceeded, api.Request{}, fault(api.ErrNoSpace, 1)},
	}
	for _, c := range cases {
		after, reply, got := memfs.Apply(c.tree, c.request)
		if got != c.fault || len(after.Inodes) > 0 || show(reply) != show(api.Reply{}) {
			t.Errorf("%s: Apply = %+v, %+v, %v, want %v", c.about, after, reply, got, c.fault)
		}
	}
}

// TestResolving checks what R5.2 says of paths, with every kind: the codes on
// the way to the last component do not depend on the kind.
func TestResolving(t *testing.T) {
	locked := changed(home(), 0, func(inode *api.Inode) { inode.ACL = nil })
	cases := []struct {
		about string
		tree  api.Tree
		user  int
		path  string
		code  int
	}{
		{"a missing directory", home(), 1, "/x/y", api.ErrNotFound},
		{"a missing directory, seen by user 0", home(), 0, "/x/y", api.ErrNotFound},
		{"missing directories", home(), 1, "/x/y/z/w", api.ErrNotFound},
		{"a missing directory below", home(), 1, "/a/x/y", api.ErrNotFound},
		{"a missing directory far below", home(), 1, "/a/d/x/y", api.ErrNotFound},
		{"below a file", home(), 1, "/f/x", api.ErrWrongType},
		{"below a file, seen by user 0", home(), 0, "/f/x", api.ErrWrongType},
		{"far below a file", home(), 1, "/f/x/y", api.ErrWrongType},
		{"below a file in a directory", home(), 1, "/a/g/x", api.ErrWrongType},
		{"below a file of another user", home(), 1, "/a/h/x", api.ErrWrongType},
		{"below a file that denies everything", with(home(), 5, denying(-1, 15, file(2, 10))), 1, "/a/h/x", api.ErrWrongType},
		{"a directory of another user", home(), 1, "/p/q", api.ErrPermission},
		{"nothing in a directory of another user", home(), 1, "/p/x", api.ErrPermission},
		{"below nothing in a directory of another user", home(), 1, "/p/x/y", api.ErrPermission},
		{"below a file in a directory of another user", home(), 1, "/p/q/x", api.ErrPermission},
		{"below a directory of another user that is not there", home(), 3, "/a/x/y", api.ErrPermission},
		{"a root that may not be searched", locked, 1, "/a", api.ErrPermission},
		{"nothing in a root that may not be searched", locked, 1, "/x", api.ErrPermission},
		{"below nothing in a root that may not be searched", locked, 1, "/x/y", api.ErrPermission},
		{"below a file in a root that may not be searched", locked, 1, "/f/x", api.ErrPermission},
		{"a directory that allows all but searching", with(home(), 6, allowing(1, 11, dir(2, "q", 9))), 1, "/p/q", api.ErrPermission},
		{"a directory that denies its owner to search", with(home(), 1, denying(1, api.PermSearch, home().Inodes[1])), 1, "/a/g", api.ErrPermission},
		{"a directory that denies everyone to search", with(home(), 1, denying(-1, api.PermSearch, home().Inodes[1])), 1, "/a/d/e", api.ErrPermission},
		{"the first entry decides", with(home(), 6, allowing(1, 4, denying(-1, 4, dir(2, "q", 9)))), 1, "/p/q", api.ErrPermission},
	}
	for _, c := range cases {
		for _, kind := range kinds {
			r := plain(kind)
			r.User, r.Path = c.user, c.path
			checkRefused(t, kind, []refused{{c.about, c.tree, r, c.code}})
		}
		if len(c.tree.Inodes[0].ACL) == 0 {
			continue // nothing can be moved here in the root
		}
		asTarget := func(from string) []refused {
			return []refused{{c.about + " as the target", c.tree, api.Request{User: c.user, Path: from, Target: c.path}, c.code}}
		}
		checkRefused(t, api.OpRename, asTarget("/z"))
		checkRefused(t, api.OpLink, asTarget("/f"))
	}
}

// TestSearchAllowed checks R5.2: only the directories on the way have to be
// searched, and user 0 has every permission.
func TestSearchAllowed(t *testing.T) {
	denied := changed(home(), 6, func(inode *api.Inode) { inode.ACL = []api.ACLEntry{{User: -1, Deny: 15}} })
	checkDone(t, api.OpStat, []done{
		{"the root", home(), by(1, "/"), nil, stat(0, api.KindDir, 0, 0, 0, 3)},
		{"a root that may not be searched", tree(dir(0)), by(1, "/"), nil, stat(0, api.KindDir, 0, 0, 0, 0)},
		{"a directory that may not be searched", home(), by(1, "/p"), nil, stat(6, api.KindDir, 2, 0, 1, 0)},
		{"a directory that denies everything", denied, by(2, "/p"), nil, stat(6, api.KindDir, 2, 0, 1, 0)},
		{"user 0 in a directory that denies everything", denied, by(0, "/p/q"), nil, stat(9, api.KindFile, 1, 1, 1, 0)},
		{"the owner", home(), by(2, "/p/q"), nil, stat(9, api.KindFile, 1, 1, 1, 0)},
		{"a user that is allowed", with(home(), 6, allowing(1, 4, dir(2, "q", 9))), by(1, "/p/q"), nil, stat(9, api.KindFile, 1, 1, 1, 0)},
		{"everyone is allowed", with(home(), 6, allowing(-1, 4, dir(2, "q", 9))), by(1, "/p/q"), nil, stat(9, api.KindFile, 1, 1, 1, 0)},
		{"the first entry decides", with(home(), 6, denying(-1, 4, allowing(1, 4, dir(2, "q", 9)))), by(1, "/p/q"), nil, stat(9, api.KindFile, 1, 1, 1, 0)},
		{"a file below two directories", home(), by(1, "/a/d/e"), nil, stat(8, api.KindFile, 1, 5, 1, api.MaxValue)},
		{"one name of a file with two", home(), by(1, "/f"), nil, stat(3, api.KindFile, 1, 3, 2, 9)},
		{"the other name", home(), by(1, "/a/g"), nil, stat(3, api.KindFile, 1, 3, 2, 9)},
		{"a file with as many names as a directory has room for", crowded(), by(0, "/a/0"), nil, stat(5, api.KindFile, 0, 0, 16, 0)},
		{"the deepest path", chain(file(3, 7), letters(8)...), by(0, deepest), nil, stat(8, api.KindFile, 3, 7, 1, 0)},
		{"the longest path", chain(dir(2), strings.Split(longest[1:], "/")...), by(0, longest), nil, stat(8, api.KindDir, 2, 0, 1, 0)},
	})
	checkRefused(t, api.OpStat, []refused{
		{"nothing in the root", home(), by(1, "/x"), api.ErrNotFound},
		{"nothing below", home(), by(1, "/a/x"), api.ErrNotFound},
		{"a name that begins like another", home(), by(1, "/aa"), api.ErrNotFound},
		{"nothing in an empty root", tree(dir(0)), by(0, "/a"), api.ErrNotFound},
	})
}

// TestRun checks R5.3.
func TestRun(t *testing.T) {
	document := []api.Request{
		{Kind: api.OpMkdir, Path: "/a"},
		{Kind: api.OpCreate, Path: "/a/f"},
		{Kind: api.OpWrite, Path: "/a/f", Offset: 2, Data: []byte{7, 8, 9}},
	}
	session := append(slices.Clone(document),
		api.Request{Kind: api.OpMkdir, User: 1, Path: "/b"},
		api.Request{Kind: api.OpSetACL, Path: "/", ACL: []api.ACLEntry{{User: 1, Allow: rwx}}},
		api.Request{Kind: api.OpMkdir, User: 1, Path: "/b"},
		api.Request{Kind: api.OpList, User: 1, Path: "/"},
		api.Request{Kind: api.OpLink, Path: "/a/f", Target: "/b/g"},
		api.Request{Kind: api.OpRemove, Path: "/a/f"},
		api.Request{Kind: api.OpRead, Path: "/b/g", Size: 4},
		api.Request{Kind: api.OpRemove, Path: "/a"},
		api.Request{Kind: api.OpStat, Path: "/b/g"},
		api.Request{Kind: api.OpCreate, User: 1, Path: "/b/h"},
	)
	five := api.Inode{Kind: api.KindFile, Data: []byte{0, 0, 7, 8, 9}, Version: 1}
	afterwards := tree(
		of(4, allowing(1, rwx, dir(0, "b", 3))),
		file(1, 0),
		of(3, five),
		of(2, dir(1, "g", 2, "h", 1)),
	)
	replies := []api.Reply{
		stat(1, 1, 0, 0, 1, 0), stat(2, 2, 0, 0, 1, 0), stat(2, 2, 0, 5, 1, 1),
		{Code: api.ErrPermission}, stat(0, 1, 0, 0, 0, 2), stat(3, 1, 1, 0, 1, 0), {Names: []string{"a", "b"}},
		stat(2, 2, 0, 5, 2, 2), {}, {Data: []byte{0, 0, 7, 8}}, {}, stat(2, 2, 0, 5, 1, 3), stat(1, 2, 1, 0, 1, 0),
	}
	cases := []struct {
		about    string
		requests []api.Request
		tree     api.Tree
		replies  []api.Reply
	}{
		{"nothing", nil, tree(dir(0)), nil},
		{"the document's example", document, tree(of(1, dir(0, "a", 1)), of(1, dir(0, "f", 2)), five), replies[:3]},
		{"a session", session, afterwards, replies},
		{"a request that fails", []api.Request{by0(api.OpStat, "/x")}, tree(dir(0)), []api.Reply{{Code: api.ErrNotFound}}},
		{"a user that has no permission", []api.Request{{Kind: api.OpMkdir, User: 1, Path: "/a"}}, tree(dir(0)), []api.Reply{{Code: api.ErrPermission}}},
	}
	for _, c := range cases {
		after, replies, got := memfs.Run(c.requests)
		if show(after, replies) != show(c.tree, c.replies) || got != success {
			t.Errorf("%s: Run = %+v, %+v, %v, want %+v, %+v", c.about, after, replies, got, c.tree, c.replies)
		}
	}
}

// by0 returns a request of user 0 without other fields.
func by0(kind int, p string) api.Request { return api.Request{Kind: kind, Path: p} }

// TestRunErrors checks the errors of R5.3 and their order.
func TestRunErrors(t *testing.T) {
	many := slices.Repeat([]api.Request{by0(api.OpStat, "/")}, api.MaxRequests)
	wrong, noPath := api.Request{Path: "/"}, by0(api.OpStat, "")
	at := func(n int, r api.Request) []api.Request {
		l := slices.Clone(many)
		l[n] = r
		return l
	}
	cases := []struct {
		about    string
		requests []api.Request
		fault    api.Fault
	}{
		{"one request too many", append(slices.Clone(many), many[0]), fault(api.ErrTooMany, -1)},
		{"far too many requests", slices.Repeat(many, 1000), fault(api.ErrTooMany, -1)},
		{"too many requests, all of them wrong", make([]api.Request, api.MaxRequests+1), fault(api.ErrTooMany, -1)},
		{"the first request", at(0, wrong), fault(api.ErrKind, 0)},
		{"a request between others", at(7, noPath), fault(api.ErrName, 7)},
		{"the last request", at(59, wrong), fault(api.ErrKind, 59)},
		{"the only request", []api.Request{noPath}, fault(api.ErrName, 0)},
		{"the first of two", []api.Request{many[0], noPath, wrong}, fault(api.ErrName, 1)},
		{"the first of two others", []api.Request{many[0], wrong, noPath}, fault(api.ErrKind, 1)},
		{"a request behind one that fails", []api.Request{by0(api.OpStat, "/x"), wrong}, fault(api.ErrKind, 1)},
	}
	for _, c := range cases {
		after, replies, got := memfs.Run(c.requests)
		if len(after.Inodes)+len(replies) > 0 || got != c.fault {
			t.Errorf("%s: Run = %+v, %+v, %v, want %v", c.about, after, replies, got, c.fault)
		}
	}
	if _, replies, got := memfs.Run(many); len(replies) != api.MaxRequests || got != success {
		t.Errorf("MaxRequests requests: Run = %d replies, %v", len(replies), got)
	}
}
