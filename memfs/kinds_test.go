package memfs_test

import (
	"cmp"
	"slices"
	"strings"
	"testing"

	"farshelf/api"
)

// touch counts modifications of inodes.
func touch(t *api.Tree, numbers ...int) {
	for _, n := range numbers {
		t.Inodes[n].Version++
	}
}

// enter adds an entry to directory n and touches it.
func enter(t *api.Tree, n int, name string, inode int) {
	d := &t.Inodes[n]
	d.Entries = append(d.Entries, api.DirEntry{Name: name, Inode: inode})
	slices.SortFunc(d.Entries, func(a, b api.DirEntry) int { return cmp.Compare(a.Name, b.Name) })
	touch(t, n)
}

// leave removes an entry from directory n and touches it.
func leave(t *api.Tree, n int, name string) {
	d := &t.Inodes[n]
	d.Entries = slices.DeleteFunc(d.Entries, func(e api.DirEntry) bool { return e.Name == name })
	touch(t, n)
}

// closed is home with a root that user 1 may not write, and that user 0 owns.
func closed() api.Tree {
	return changed(home(), 0, func(inode *api.Inode) { inode.ACL = []api.ACLEntry{{User: -1, Allow: 5}} })
}

// TestMake checks OpMkdir and OpCreate.
func TestMake(t *testing.T) {
	for _, kind := range []int{api.OpMkdir, api.OpCreate} {
		made := map[int]int{api.OpMkdir: api.KindDir, api.OpCreate: api.KindFile}[kind]
		fill := func(n, owner, parent int, name string) func(t *api.Tree) {
			return func(t *api.Tree) {
				if n == len(t.Inodes) {
					t.Inodes = append(t.Inodes, api.Inode{})
				}
				t.Inodes[n] = api.Inode{Kind: made, Owner: owner}
				enter(t, parent, name, n)
			}
		}
		noFree := with(with(home(), 2, file(0, 0)), 10, file(0, 0))
		noFree.Inodes[7] = dir(1, "s", 2, "t", 10)
		nearlyFull := with(crowded(20), 1, wide(0, api.MaxDirEntries-1, 5))
		checkDone(t, kind, []done{
			{"in an empty root", tree(dir(0)), by(0, "/a"), fill(1, 0, 0, "a"), stat(1, made, 0, 0, 1, 0)},
			{"the smallest free inode", home(), by(1, "/a/b"), fill(2, 1, 1, "b"), stat(2, made, 1, 0, 1, 0)},
			{"a new inode at the end", noFree, by(2, "/b"), fill(11, 2, 0, "b"), stat(11, made, 2, 0, 1, 0)},
			{"before all others", home(), by(1, "/A"), fill(2, 1, 0, "A"), stat(2, made, 1, 0, 1, 0)},
			{"behind all others", home(), by(1, "/zz"), fill(2, 1, 0, "zz"), stat(2, made, 1, 0, 1, 0)},
			{"in an empty directory", home(), by(1, "/z/n"), fill(2, 1, 7, "n"), stat(2, made, 1, 0, 1, 0)},
			{"far below, under a quota that is met", with(home(), 4, limited(5, dir(1, "e", 8))), by(1, "/a/d/n"), fill(2, 1, 4, "n"), stat(2, made, 1, 0, 1, 0)},
			{"user 0 in a directory of another user", home(), by(0, "/p/n"), fill(2, 0, 6, "n"), stat(2, made, 0, 0, 1, 0)},
			{"a user that is allowed", with(home(), 1, allowing(3, 6, home().Inodes[1])), by(3, "/a/b"), fill(2, 3, 1, "b"), stat(2, made, 3, 0, 1, 0)},
			{"the last inode", tree(crowded(39).Inodes[:39]...), by(0, "/d/n"), fill(39, 0, 4, "n"), stat(39, made, 0, 0, 1, 0)},
			{"the only free inode", crowded(39), by(0, "/d/n"), fill(39, 0, 4, "n"), stat(39, made, 0, 0, 1, 0)},
			{"one of two free inodes", crowded(38, 39), by(0, "/d/n"), fill(38, 0, 4, "n"), stat(38, made, 0, 0, 1, 0)},
			{"the last entry that there is room for", nearlyFull, by(0, "/a/n"), fill(20, 0, 1, "n"), stat(20, made, 0, 0, 1, 0)},
			{"the deepest path", chain(dir(0), letters(7)...), by(0, deepest), fill(9, 0, 7, "a"), stat(9, made, 0, 0, 1, 0)},
			{"the longest path", chain(dir(0), strings.Split(longest[1:], "/")[:7]...), by(0, longest), fill(9, 0, 7, longName), stat(9, made, 0, 0, 1, 0)},
			{"a version that is MaxValue", with(home(), 7, of(api.MaxValue, dir(1))), by(1, "/z/n"), func(t *api.Tree) { fill(2, 1, 7, "n")(t); t.Inodes[7].Version = api.MaxValue }, stat(2, made, 1, 0, 1, 0)},
		})
		checkRefused(t, kind, []refused{
			{"the root", home(), by(1, "/"), api.ErrName},
			{"the root of another user", tree(dir(0)), by(1, "/"), api.ErrName},
			{"a parent that may not be written", closed(), by(1, "/n"), api.ErrPermission},
			{"a parent of another user", with(home(), 6, allowing(1, 5, dir(2, "q", 9))), by(1, "/p/n"), api.ErrPermission},
			{"a directory", home(), by(1, "/a"), api.ErrExists},
			{"a file", home(), by(1, "/a/g"), api.ErrExists},
			{"a path in a full directory", crowded(20), by(0, "/a/n"), api.ErrTooMany},
			{"a path without a free inode", crowded(), by(0, "/d/n"), api.ErrNoSpace},
			{"what exists in a parent that may not be written", closed(), by(1, "/a"), api.ErrPermission},
			{"what exists in a full directory", crowded(20), by(0, "/a/3"), api.ErrExists},
			{"what exists without a free inode", crowded(), by(0, "/d"), api.ErrExists},
			{"a full directory without a free inode", crowded(), by(0, "/a/n"), api.ErrTooMany},
			{"a full directory that may not be written", with(crowded(), 0, allowing(-1, rwx, crowded().Inodes[0])), by(1, "/a/n"), api.ErrPermission},
		})
	}
}

// TestRead checks OpRead.
func TestRead(t *testing.T) {
	bytes := func(data ...byte) api.Reply { return api.Reply{Data: data} }
	at := func(offset, size int) api.Request {
		return api.Request{User: 1, Path: "/f", Offset: offset, Size: size}
	}
	large := tree(dir(0, "f", 1), file(1, api.MaxFileBytes))
	large.Inodes[0].ACL = home().Inodes[0].ACL
	checkDone(t, api.OpRead, []done{
		{"all", home(), at(0, 3), nil, bytes(1, 2, 3)},
		{"the first byte", home(), at(0, 1), nil, bytes(1)},
		{"the last byte", home(), at(2, 1), nil, bytes(3)},
		{"nothing", home(), at(1, 0), nil, bytes()},
		{"more than there is", home(), at(1, 100), nil, bytes(2, 3)},
		{"one byte more than there is", home(), at(1, 3), nil, bytes(2, 3)},
		{"at the end", home(), at(3, 1), nil, bytes()},
		{"behind the end", home(), at(4, 1), nil, bytes()},
		{"at the bounds", home(), at(api.MaxValue, api.MaxValue), nil, bytes()},
		{"as much as can be asked for", home(), at(0, api.MaxValue), nil, bytes(1, 2, 3)},
		{"a large file", large, at(0, api.MaxFileBytes), nil, bytes(large.Inodes[1].Data...)},
		{"the end of a large file", large, at(199, 5), nil, bytes(200)},
		{"another name", home(), api.Request{User: 1, Path: "/a/g", Size: 2}, nil, bytes(1, 2)},
		{"an empty file", tree(dir(0, "f", 1), file(0, 0)), api.Request{Path: "/f", Size: 5}, nil, bytes()},
		{"a user that is allowed", home(), api.Request{User: 2, Path: "/f", Size: 5}, nil, bytes(1, 2, 3)},
		{"user 0", with(home(), 3, denying(-1, 1, file(1, 2))), api.Request{Path: "/f", Size: 5}, nil, bytes(1, 2)},
		{"a file that may not be written", with(home(), 3, denying(-1, 2, file(1, 2))), at(0, 5), nil, bytes(1, 2)},
	})
	checkRefused(t, api.OpRead, []refused{
		{"nothing", home(), by(1, "/x"), api.ErrNotFound},
		{"the root", home(), by(1, "/"), api.ErrWrongType},
		{"a directory", home(), by(1, "/a"), api.ErrWrongType},
		{"a directory that may not be read", home(), by(1, "/p"), api.ErrWrongType},
		{"a file of another user", home(), by(3, "/f"), api.ErrPermission},
		{"a file that allows all but reading", with(home(), 3, allowing(3, 14, file(1, 2))), by(3, "/f"), api.ErrPermission},
		{"a file that denies its owner", with(home(), 3, denying(1, 1, file(1, 2))), by(1, "/f"), api.ErrPermission},
	})
}

// TestList checks OpList.
func TestList(t *testing.T) {
	names := func(names ...string) api.Reply { return api.Reply{Names: names} }
	checkDone(t, api.OpList, []done{
		{"the root", home(), by(1, "/"), nil, names("a", "f", "p", "z")},
		{"a directory", home(), by(1, "/a"), nil, names("d", "g", "h")},
		{"an empty directory", home(), by(1, "/z"), nil, names()},
		{"an empty root", tree(dir(0)), by(0, "/"), nil, names()},
		{"a full directory", crowded(), by(0, "/a"), nil, names(strings.Split(full, "")...)},
		{"a directory that may be read and not searched", with(home(), 6, allowing(1, 1, dir(2, "q", 9))), by(1, "/p"), nil, names("q")},
		{"user 0", home(), by(0, "/p"), nil, names("q")},
	})
	checkRefused(t, api.OpList, []refused{
		{"nothing", home(), by(1, "/x"), api.ErrNotFound},
		{"a file", home(), by(1, "/f"), api.ErrWrongType},
		{"a file that may not be read", home(), by(3, "/f"), api.ErrWrongType},
		{"a directory of another user", home(), by(1, "/p"), api.ErrPermission},
		{"a directory that may be searched and not read", with(home(), 6, allowing(1, 14, dir(2, "q", 9))), by(1, "/p"), api.ErrPermission},
		{"the root", tree(dir(0)), by(1, "/"), api.ErrPermission},
	})
}

// contents returns a function that replaces the data of file n and touches it.
func contents(n int, data ...byte) func(t *api.Tree) {
	return func(t *api.Tree) {
		t.Inodes[n].Data = data
		touch(t, n)
	}
}

// pad returns data, and zero bytes up to a size.
func pad(size int, data ...byte) []byte { return append(data, make([]byte, size-len(data))...) }

// TestWrite checks OpWrite.
func TestWrite(t *testing.T) {
	at := func(offset int, data ...byte) api.Request {
		return api.Request{User: 1, Path: "/f", Offset: offset, Data: data}
	}
	document := tree(dir(0, "a", 1), dir(0, "f", 2), file(0, 0))
	hundred := pad(100, 7)
	checkDone(t, api.OpWrite, []done{
		{"the document's example", document, api.Request{Path: "/a/f", Offset: 2, Data: []byte{7, 8, 9}}, contents(2, 0, 0, 7, 8, 9), stat(2, api.KindFile, 0, 5, 1, 1)},
		{"the first byte", home(), at(0, 7), contents(3, 7, 2, 3), stat(3, api.KindFile, 1, 3, 2, 10)},
		{"within", home(), at(1, 7), contents(3, 1, 7, 3), stat(3, api.KindFile, 1, 3, 2, 10)},
		{"up to the end", home(), at(1, 7, 8), contents(3, 1, 7, 8), stat(3, api.KindFile, 1, 3, 2, 10)},
		{"over the end", home(), at(2, 7, 8), contents(3, 1, 2, 7, 8), stat(3, api.KindFile, 1, 4, 2, 10)},
		{"all and more", home(), at(0, 7, 8, 9, 6), contents(3, 7, 8, 9, 6), stat(3, api.KindFile, 1, 4, 2, 10)},
		{"at the end", home(), at(3, 7), contents(3, 1, 2, 3, 7), stat(3, api.KindFile, 1, 4, 2, 10)},
		{"behind the end", home(), at(5, 7), contents(3, 1, 2, 3, 0, 0, 7), stat(3, api.KindFile, 1, 6, 2, 10)},
		{"zeros", home(), at(2, 0, 0), contents(3, 1, 2, 0, 0), stat(3, api.KindFile, 1, 4, 2, 10)},
		{"no data", home(), at(0), contents(3, 1, 2, 3), stat(3, api.KindFile, 1, 3, 2, 10)},
		{"no data at the end", home(), at(3), contents(3, 1, 2, 3), stat(3, api.KindFile, 1, 3, 2, 10)},
		{"no data behind the end", home(), at(5), contents(3, 1, 2, 3), stat(3, api.KindFile, 1, 3, 2, 10)},
		{"no data far behind the end", home(), at(api.MaxValue), contents(3, 1, 2, 3), stat(3, api.KindFile, 1, 3, 2, 10)},
		{"the last byte that there is room for", home(), at(199, 7), contents(3, append(pad(199, 1, 2, 3), 7)...), stat(3, api.KindFile, 1, 200, 2, 10)},
		{"as many bytes as there is room for", home(), at(100, hundred...), contents(3, append(pad(100, 1, 2, 3), hundred...)...), stat(3, api.KindFile, 1, 200, 2, 10)},
		{"a full file", with(document, 2, file(0, 200)), api.Request{Path: "/a/f", Offset: 199, Data: []byte{7}}, func(t *api.Tree) { t.Inodes[2].Data[199] = 7; touch(t, 2) }, stat(2, api.KindFile, 0, 200, 1, 1)},
		{"another name", home(), api.Request{User: 1, Path: "/a/g", Data: []byte{9}}, contents(3, 9, 2, 3), stat(3, api.KindFile, 1, 3, 2, 10)},
		{"user 0", home(), api.Request{Path: "/a/h", Offset: 10, Data: []byte{9}}, contents(5, 1, 2, 3, 4, 5, 6, 7, 8, 9, 10, 9), stat(5, api.KindFile, 2, 11, 1, 1)},
		{"a file that may not be read", with(home(), 3, denying(1, 1, file(1, 1))), at(0, 7), contents(3, 7), stat(3, api.KindFile, 1, 1, 2, 1)},
		{"a file in a directory that may not be written", with(home(), 6, allowing(1, 4, dir(2, "q", 9))), api.Request{User: 1, Path: "/p/q", Data: []byte{7}}, contents(9, 7), stat(9, api.KindFile, 1, 1, 1, 1)},
		{"a version that is MaxValue", home(), api.Request{User: 1, Path: "/a/d/e", Data: []byte{7}}, func(t *api.Tree) { t.Inodes[8].Data[0] = 7 }, stat(8, api.KindFile, 1, 5, 1, api.MaxValue)},
		{"no data and a version that is MaxValue", home(), by(1, "/a/d/e"), nil, stat(8, api.KindFile, 1, 5, 1, api.MaxValue)},
		{"a version below MaxValue", with(home(), 3, of(api.MaxValue-1, file(1, 1))), at(0, 7), contents(3, 7), stat(3, api.KindFile, 1, 1, 2, api.MaxValue)},
	})
	checkRefused(t, api.OpWrite, []refused{
		{"nothing", home(), by(1, "/x"), api.ErrNotFound},
		{"a directory", home(), by(1, "/a"), api.ErrWrongType},
		{"the root", home(), by(1, "/"), api.ErrWrongType},
		{"a file of another user", home(), by(1, "/a/h"), api.ErrPermission},
		{"a file that allows all but writing", with(home(), 5, allowing(1, 13, file(2, 1))), by(1, "/a/h"), api.ErrPermission},
		{"no data to a file of another user", home(), by(3, "/f"), api.ErrPermission},
		{"one byte too many", home(), at(200, 7), api.ErrTooLarge},
		{"a few bytes too many", home(), at(199, 7, 8), api.ErrTooLarge},
		{"many bytes too many", home(), at(101, hundred...), api.ErrTooLarge},
		{"far behind the end", home(), at(api.MaxValue, 7), api.ErrTooLarge},
		{"too many bytes to a directory that may not be written", home(), api.Request{User: 1, Path: "/p", Offset: 200, Data: []byte{7}}, api.ErrWrongType},
		{"too many bytes to a file of another user", home(), api.Request{User: 1, Path: "/a/h", Offset: 200, Data: []byte{7}}, api.ErrPermission},
		{"too many bytes for the file and a quota", home(), api.Request{User: 1, Path: "/a/d/e", Offset: 200, Data: []byte{7}}, api.ErrTooLarge},
		{"too many bytes for a quota to a file of another user", home(), api.Request{User: 3, Path: "/a/d/e", Offset: 20, Data: []byte{7}}, api.ErrPermission},
	})
}

// TestTruncate checks OpTruncate.
func TestTruncate(t *testing.T) {
	to := func(size int) api.Request { return api.Request{User: 1, Path: "/f", Size: size} }
	checkDone(t, api.OpTruncate, []done{
		{"to nothing", home(), to(0), contents(3), stat(3, api.KindFile, 1, 0, 2, 10)},
		{"to less", home(), to(2), contents(3, 1, 2), stat(3, api.KindFile, 1, 2, 2, 10)},
		{"to as much", home(), to(3), contents(3, 1, 2, 3), stat(3, api.KindFile, 1, 3, 2, 10)},
		{"to more", home(), to(5), contents(3, 1, 2, 3, 0, 0), stat(3, api.KindFile, 1, 5, 2, 10)},
		{"to MaxFileBytes", home(), to(api.MaxFileBytes), contents(3, pad(200, 1, 2, 3)...), stat(3, api.KindFile, 1, 200, 2, 10)},
		{"user 0", home(), api.Request{Path: "/a/h", Size: 1}, contents(5, 1), stat(5, api.KindFile, 2, 1, 1, 1)},
		{"an empty file to nothing", tree(dir(0, "f", 1), file(0, 0)), by(0, "/f"), contents(1), stat(1, api.KindFile, 0, 0, 1, 1)},
		{"a version that is MaxValue", home(), api.Request{User: 1, Path: "/a/d/e", Size: 1}, func(t *api.Tree) { t.Inodes[8].Data = []byte{1} }, stat(8, api.KindFile, 1, 1, 1, api.MaxValue)},
	})
	checkRefused(t, api.OpTruncate, []refused{
		{"nothing", home(), by(1, "/x"), api.ErrNotFound},
		{"a directory", home(), by(1, "/a"), api.ErrWrongType},
		{"a file of another user", home(), by(1, "/a/h"), api.ErrPermission},
		{"one byte too many", home(), to(api.MaxFileBytes + 1), api.ErrTooLarge},
		{"many bytes too many", home(), to(api.MaxValue), api.ErrTooLarge},
		{"a directory that may not be written, too large", home(), api.Request{User: 1, Path: "/p", Size: 201}, api.ErrWrongType},
		{"too large a file of another user", home(), api.Request{User: 1, Path: "/a/h", Size: 201}, api.ErrPermission},
		{"too large for the file and a quota", home(), api.Request{User: 1, Path: "/a/d/e", Size: 201}, api.ErrTooLarge},
		{"too large for a quota, of another user", home(), api.Request{User: 3, Path: "/a/d/e", Size: 21}, api.ErrPermission},
	})
}

// TestRemove checks OpRemove.
func TestRemove(t *testing.T) {
	atMost := with(home(), 3, of(api.MaxValue, file(1, 1)))
	withAttrs := with(home(), 7, limited(5, denying(2, 1, of(4, dir(1)))))
	checkDone(t, api.OpRemove, []done{
		{"a file with one name", home(), by(1, "/a/h"), func(t *api.Tree) { leave(t, 1, "h"); t.Inodes[5] = api.Inode{} }, api.Reply{}},
		{"an empty directory", home(), by(1, "/z"), func(t *api.Tree) { leave(t, 0, "z"); t.Inodes[7] = api.Inode{} }, api.Reply{}},
		{"an empty directory with other fields", withAttrs, by(1, "/z"), func(t *api.Tree) { leave(t, 0, "z"); t.Inodes[7] = api.Inode{} }, api.Reply{}},
		{"one of two names", home(), by(1, "/f"), func(t *api.Tree) { leave(t, 0, "f"); touch(t, 3) }, api.Reply{}},
		{"the other name", home(), by(1, "/a/g"), func(t *api.Tree) { leave(t, 1, "g"); touch(t, 3) }, api.Reply{}},
		{"one of sixteen names", crowded(), by(0, "/a/7"), func(t *api.Tree) { leave(t, 1, "7"); touch(t, 5) }, api.Reply{}},
		{"one of two names, a version that is MaxValue", atMost, by(1, "/f"), func(t *api.Tree) { leave(t, 0, "f") }, api.Reply{}},
		{"the last inode", crowded(), by(0, "/d/1"), func(t *api.Tree) { leave(t, 4, "1"); t.Inodes[39] = api.Inode{} }, api.Reply{}},
		{"a file that may not be written", home(), by(3, "/f"), func(t *api.Tree) { leave(t, 0, "f"); touch(t, 3) }, api.Reply{}},
		{"user 0", home(), by(0, "/p/q"), func(t *api.Tree) { leave(t, 6, "q"); t.Inodes[9] = api.Inode{} }, api.Reply{}},
	})
	checkRefused(t, api.OpRemove, []refused{
		{"the root", home(), by(1, "/"), api.ErrName},
		{"an empty root", tree(dir(0)), by(0, "/"), api.ErrName},
		{"an empty root of another user", tree(dir(0)), by(1, "/"), api.ErrName},
		{"nothing", home(), by(1, "/x"), api.ErrNotFound},
		{"nothing below", home(), by(1, "/z/x"), api.ErrNotFound},
		{"a file in a parent that may not be written", closed(), by(1, "/f"), api.ErrPermission},
		{"a directory with entries", home(), by(1, "/a"), api.ErrBusy},
		{"a directory with one entry", home(), by(1, "/p"), api.ErrBusy},
		{"nothing in a parent that may not be written", closed(), by(1, "/x"), api.ErrPermission},
		{"a directory with entries in a parent that may not be written", closed(), by(1, "/a"), api.ErrPermission},
	})
}

// TestSetACL checks OpSetACL.
func TestSetACL(t *testing.T) {
	six := slices.Repeat([]api.ACLEntry{{User: 2, Deny: 15}}, api.MaxACLEntries)
	to := func(p string, l ...api.ACLEntry) api.Request { return api.Request{User: 1, Path: p, ACL: l} }
	set := func(n int, l ...api.ACLEntry) func(t *api.Tree) {
		return func(t *api.Tree) { t.Inodes[n].ACL = l; touch(t, n) }
	}
	ruled := changed(home(), 0, func(inode *api.Inode) { inode.ACL = []api.ACLEntry{{User: 1, Allow: 8}} })
	checkDone(t, api.OpSetACL, []done{
		{"a file", home(), to("/f", six[0]), set(3, six[0]), stat(3, api.KindFile, 1, 3, 2, 10)},
		{"a file to nothing", home(), to("/f"), set(3), stat(3, api.KindFile, 1, 3, 2, 10)},
		{"a directory", home(), to("/a", six...), set(1, six...), stat(1, api.KindDir, 1, 0, 1, 1)},
		{"nothing to nothing", home(), to("/z"), set(7), stat(7, api.KindDir, 1, 0, 1, 1)},
		{"the root", ruled, to("/", six[:2]...), set(0, six[:2]...), stat(0, api.KindDir, 0, 0, 0, 4)},
		{"user 0", home(), api.Request{Path: "/p", ACL: six[:1]}, set(6, six[0]), stat(6, api.KindDir, 2, 0, 1, 1)},
		{"a user that is allowed", with(home(), 5, allowing(1, 8, file(2, 1))), to("/a/h", six[0]), set(5, six[0]), stat(5, api.KindFile, 2, 1, 1, 1)},
		{"a version that is MaxValue", home(), to("/a/d/e", six...), func(t *api.Tree) { t.Inodes[8].ACL = six }, stat(8, api.KindFile, 1, 5, 1, api.MaxValue)},
	})
	checkAdmin(t, api.OpSetACL)
}

// checkAdmin checks what OpSetACL, OpSetQuota and OpChown refuse alike.
func checkAdmin(t *testing.T, kind int) {
	t.Helper()
	checkRefused(t, kind, []refused{
		{"nothing", home(), by(1, "/x"), api.ErrNotFound},
		{"nothing below", home(), by(1, "/a/x"), api.ErrNotFound},
		{"the root", home(), by(1, "/"), api.ErrPermission},
		{"a directory of another user", home(), by(1, "/p"), api.ErrPermission},
		{"a directory that allows all but administration", with(home(), 6, allowing(1, 7, dir(2, "q", 9))), by(1, "/p"), api.ErrPermission},
		{"a directory that denies its owner", with(home(), 7, denying(1, 8, dir(1))), by(1, "/z"), api.ErrPermission},
	})
}

// TestChown checks OpChown.
func TestChown(t *testing.T) {
	to := func(p string, owner int) api.Request { return api.Request{User: 1, Path: p, Size: owner} }
	set := func(n, owner int) func(t *api.Tree) {
		return func(t *api.Tree) { t.Inodes[n].Owner = owner; touch(t, n) }
	}
	checkDone(t, api.OpChown, []done{
		{"a file", home(), to("/f", 4), set(3, 4), stat(3, api.KindFile, 4, 3, 2, 10)},
		{"to user 0", home(), to("/f", 0), set(3, 0), stat(3, api.KindFile, 0, 3, 2, 10)},
		{"to MaxUser", home(), to("/f", api.MaxUser), set(3, api.MaxUser), stat(3, api.KindFile, api.MaxUser, 3, 2, 10)},
		{"to itself", home(), to("/z", 1), set(7, 1), stat(7, api.KindDir, 1, 0, 1, 1)},
		{"user 0", home(), api.Request{Path: "/", Size: 2}, set(0, 2), stat(0, api.KindDir, 2, 0, 0, 4)},
		{"a version that is MaxValue", home(), to("/a/d/e", 2), func(t *api.Tree) { t.Inodes[8].Owner = 2 }, stat(8, api.KindFile, 2, 5, 1, api.MaxValue)},
	})
	checkAdmin(t, api.OpChown)
	checkRefused(t, api.OpChown, []refused{{"a file of another user", home(), to("/a/h", 1), api.ErrPermission}})
}

// TestSetQuota checks OpSetQuota.
func TestSetQuota(t *testing.T) {
	to := func(p string, size int) api.Request { return api.Request{User: 1, Path: p, Size: size} }
	set := func(n, quota int) func(t *api.Tree) {
		return func(t *api.Tree) { t.Inodes[n].Quota = quota; touch(t, n) }
	}
	twoNames := with(home(), 7, dir(1, "m", 10, "n", 10))
	twoNames.Inodes[10] = file(0, 6)
	checkDone(t, api.OpSetQuota, []done{
		{"to the usage", home(), to("/a", 18), set(1, 18), stat(1, api.KindDir, 1, 0, 1, 1)},
		{"to more than the usage", home(), to("/a", 19), set(1, 19), stat(1, api.KindDir, 1, 0, 1, 1)},
		{"to MaxQuota", home(), to("/a", api.MaxQuota), set(1, api.MaxQuota), stat(1, api.KindDir, 1, 0, 1, 1)},
		{"to nothing", home(), to("/a/d", 0), set(4, 0), stat(4, api.KindDir, 1, 0, 1, 1)},
		{"to less that is the usage", home(), to("/a/d", 5), set(4, 5), stat(4, api.KindDir, 1, 0, 1, 1)},
		{"an empty directory", home(), to("/z", 1), set(7, 1), stat(7, api.KindDir, 1, 0, 1, 1)},
		{"nothing to nothing", home(), to("/a", 0), set(1, 0), stat(1, api.KindDir, 1, 0, 1, 1)},
		{"a file with two names", twoNames, to("/z", 6), set(7, 6), stat(7, api.KindDir, 1, 0, 1, 1)},
		{"the root", home(), api.Request{Path: "/", Size: 19}, set(0, 19), stat(0, api.KindDir, 0, 0, 0, 4)},
		{"a version that is MaxValue", with(home(), 7, of(api.MaxValue, dir(1))), to("/z", 1), func(t *api.Tree) { t.Inodes[7].Quota = 1 }, stat(7, api.KindDir, 1, 0, 1, api.MaxValue)},
	})
	checkAdmin(t, api.OpSetQuota)
	checkRefused(t, api.OpSetQuota, []refused{
		{"a file", home(), to("/f", 100), api.ErrWrongType},
		{"a file to nothing", home(), to("/f", 0), api.ErrWrongType},
		{"a file of another user", home(), to("/a/h", 100), api.ErrWrongType},
		{"less than the usage", home(), to("/a", 17), api.ErrNoSpace},
		{"one byte", home(), to("/a", 1), api.ErrNoSpace},
		{"less than the usage of a file with two names", twoNames, to("/z", 5), api.ErrNoSpace},
		{"less than the usage of the root", home(), api.Request{Path: "/", Size: 18}, api.ErrNoSpace},
		{"a file, less than its size", home(), to("/f", 1), api.ErrWrongType},
		{"less than the usage, of another user", home(), api.Request{User: 3, Path: "/a", Size: 1}, api.ErrPermission},
	})
}

// TestSetAttr checks OpSetAttr.
func TestSetAttr(t *testing.T) {
	to := func(p, name, value string) api.Request {
		return api.Request{User: 1, Path: p, Attr: api.Attr{Name: name, Value: value}}
	}
	set := func(n int, texts ...string) func(t *api.Tree) {
		return func(t *api.Tree) {
			t.Inodes[n].Attrs = nil
			for i := 0; i < len(texts); i += 2 {
				t.Inodes[n].Attrs = append(t.Inodes[n].Attrs, api.Attr{Name: texts[i], Value: texts[i+1]})
			}
			touch(t, n)
		}
	}
	five := []string{"b", "1", "c", "2", "d", "3", "e", "4", "g", "5"}
	six := slices.Concat(five[:8], []string{"f", "6"}, five[8:])
	filled := func(texts []string) api.Tree {
		return changed(home(), 3, func(inode *api.Inode) {
			inode.Attrs = nil
			for i := 0; i < len(texts); i += 2 {
				inode.Attrs = append(inode.Attrs, api.Attr{Name: texts[i], Value: texts[i+1]})
			}
		})
	}
	reply := stat(3, api.KindFile, 1, 3, 2, 10)
	checkDone(t, api.OpSetAttr, []done{
		{"set", home(), to("/a", "k", "v"), set(1, "k", "v"), stat(1, api.KindDir, 1, 0, 1, 1)},
		{"set another one before", home(), to("/f", "j", "1"), set(3, "j", "1", "k", "v"), reply},
		{"set another one behind", home(), to("/f", "l", "1"), set(3, "k", "v", "l", "1"), reply},
		{"replaced", home(), to("/f", "k", "w"), set(3, "k", "w"), reply},
		{"replaced by itself", home(), to("/f", "k", "v"), set(3, "k", "v"), reply},
		{"removed", home(), to("/f", "k", ""), set(3), reply},
		{"an absent one removed", home(), to("/f", "l", ""), set(3, "k", "v"), reply},
		{"the last one that there is room for", filled(five), to("/f", "f", "6"), set(3, six...), reply},
		{"one of six replaced", filled(six), to("/f", "b", "7"), set(3, append([]string{"b", "7"}, six[2:]...)...), reply},
		{"one of six removed", filled(six), to("/f", "f", ""), set(3, five...), reply},
		{"an absent one removed from six", filled(six), to("/f", "a", ""), set(3, six...), reply},
		{"the longest attribute", home(), to("/z", longName, longValue), set(7, longName, longValue), stat(7, api.KindDir, 1, 0, 1, 1)},
		{"the root", home(), to("/", "k", "v"), set(0, "k", "v"), stat(0, api.KindDir, 0, 0, 0, 4)},
		{"user 0", home(), api.Request{Path: "/p", Attr: api.Attr{Name: "k", Value: "v"}}, set(6, "k", "v"), stat(6, api.KindDir, 2, 0, 1, 1)},
		{"a user that is allowed", with(home(), 5, allowing(1, 2, file(2, 1))), to("/a/h", "k", "v"), set(5, "k", "v"), stat(5, api.KindFile, 2, 1, 1, 1)},
		{"a version that is MaxValue", home(), to("/a/d/e", "k", ""), nil, stat(8, api.KindFile, 1, 5, 1, api.MaxValue)},
	})
	checkRefused(t, api.OpSetAttr, []refused{
		{"nothing", home(), to("/x", "k", "v"), api.ErrNotFound},
		{"a file of another user", home(), to("/a/h", "k", "v"), api.ErrPermission},
		{"a directory of another user", home(), to("/p", "k", ""), api.ErrPermission},
		{"a file that allows all but writing", with(home(), 5, allowing(1, 13, file(2, 1))), to("/a/h", "k", "v"), api.ErrPermission},
		{"a seventh one", filled(six), to("/f", "a", "1"), api.ErrTooMany},
		{"a seventh one behind", filled(six), to("/f", "h", "1"), api.ErrTooMany},
		{"a seventh one of another user", filled(six), api.Request{User: 3, Path: "/f", Attr: api.Attr{Name: "a", Value: "1"}}, api.ErrPermission},
	})
}
