package memfs_test

import (
	"strings"
	"testing"

	"farshelf/api"
)

// to returns a request of user 1 for a path and a target.
func to(p, target string) api.Request { return api.Request{User: 1, Path: p, Target: target} }

// move returns a function that moves an entry from one directory to another,
// and touches both.
func move(from int, name string, to int, target string, n int) func(t *api.Tree) {
	return func(t *api.Tree) {
		leave(t, from, name)
		enter(t, to, target, n)
	}
}

// within returns a function that renames an entry, and touches its directory
// once.
func within(parent int, name, target string, n int) func(t *api.Tree) {
	return func(t *api.Tree) {
		move(parent, name, parent, target, n)(t)
		t.Inodes[parent].Version--
	}
}

// as returns r as another user's request.
func as(user int, r api.Request) api.Request {
	r.User = user
	return r
}

// TestRename checks OpRename.
func TestRename(t *testing.T) {
	toFull := with(crowded(), 4, wide(0, api.MaxDirEntries-1, 5))
	toFull.Inodes[38], toFull.Inodes[39] = api.Inode{}, api.Inode{}
	atMost := with(home(), 7, of(api.MaxValue, dir(1)))
	f, h, d := stat(3, api.KindFile, 1, 3, 2, 9), stat(5, api.KindFile, 2, 10, 1, 0), stat(4, api.KindDir, 1, 0, 1, 0)
	checkDone(t, api.OpRename, []done{
		{"within the root", home(), to("/f", "/b"), within(0, "f", "b", 3), f},
		{"within the root, before all", home(), to("/f", "/A"), within(0, "f", "A", 3), f},
		{"within the root, behind all", home(), to("/f", "/zz"), within(0, "f", "zz", 3), f},
		{"within a directory", home(), to("/a/h", "/a/b"), within(1, "h", "b", 5), h},
		{"to a longer name", home(), to("/a/h", "/a/hh"), within(1, "h", "hh", 5), h},
		{"a directory within the root", home(), to("/a", "/b"), within(0, "a", "b", 1), stat(1, api.KindDir, 1, 0, 1, 0)},
		{"a file to another directory", home(), to("/f", "/z/f"), move(0, "f", 7, "f", 3), f},
		{"a file up", home(), to("/a/h", "/h"), move(1, "h", 0, "h", 5), h},
		{"a directory to another one", home(), to("/a/d", "/z/y"), move(1, "d", 7, "y", 4), d},
		{"a directory up", home(), to("/a/d", "/d"), move(1, "d", 0, "d", 4), d},
		{"a directory into a sibling", home(), to("/z", "/a/z"), move(0, "z", 1, "z", 7), stat(7, api.KindDir, 1, 0, 1, 0)},
		{"one name of a file beside the other", home(), to("/f", "/a/f"), move(0, "f", 1, "f", 3), f},
		{"to a name that begins like the path", home(), to("/a", "/ab"), within(0, "a", "ab", 1), stat(1, api.KindDir, 1, 0, 1, 0)},
		{"below a directory that begins like the path", with(home(), 0, allowing(-1, rwx, dir(0, "a", 1, "f", 3, "p", 6, "zz", 7))), to("/a/h", "/zz/a"), move(1, "h", 7, "a", 5), h},
		{"a version of a directory that is MaxValue", atMost, to("/f", "/z/f"), func(t *api.Tree) { move(0, "f", 7, "f", 3)(t); t.Inodes[7].Version = api.MaxValue }, f},
		{"a file that is not touched at MaxValue", home(), to("/a/d/e", "/z/e"), move(4, "e", 7, "e", 8), stat(8, api.KindFile, 1, 5, 1, api.MaxValue)},
		{"a file that may not be written", home(), as(3, to("/f", "/y")), within(0, "f", "y", 3), f},
		{"a directory that may not be searched", home(), to("/p", "/z/p"), move(0, "p", 7, "p", 6), stat(6, api.KindDir, 2, 0, 1, 0)},
		{"user 0", home(), as(0, to("/p/q", "/a/q")), move(6, "q", 1, "q", 9), stat(9, api.KindFile, 1, 1, 1, 0)},
		{"within a full directory", crowded(), as(0, to("/a/0", "/a/n")), within(1, "0", "n", 5), stat(5, api.KindFile, 0, 0, 16, 0)},
		{"out of a full directory", crowded(), as(0, to("/b/0", "/d/n")), move(2, "0", 4, "n", 6), stat(6, api.KindFile, 0, 0, 1, 0)},
		{"the last entry that there is room for", toFull, as(0, to("/b/0", "/d/n")), move(2, "0", 4, "n", 6), stat(6, api.KindFile, 0, 0, 1, 0)},
		{"to the deepest path", chain(dir(0), letters(7)...), as(0, to("/x", deepest)), move(0, "x", 7, "a", 8), stat(8, api.KindFile, 0, 0, 1, 0)},
		{"to the longest path", chain(dir(0), strings.Split(longest[1:], "/")[:7]...), as(0, to("/x", longest)), move(0, "x", 7, longName, 8), stat(8, api.KindFile, 0, 0, 1, 0)},
	})
	checkRefused(t, api.OpRename, renameErrors())
}

// renameErrors are requests that OpRename refuses, but for paths that become
// too long.
func renameErrors() []refused {
	oneFull := with(crowded(), 0, allowing(-1, rwx, crowded().Inodes[0]))
	return []refused{
		{"the root", home(), to("/", "/b"), api.ErrName},
		{"the root of another user", closed(), to("/", "/b"), api.ErrName},
		{"nothing", home(), to("/x", "/b"), api.ErrNotFound},
		{"nothing to itself", home(), to("/x", "/x"), api.ErrNotFound},
		{"a path in a parent that may not be written", closed(), to("/f", "/a/f"), api.ErrPermission},
		{"into itself", home(), to("/a", "/a/b"), api.ErrBusy},
		{"into its own subtree", home(), to("/a", "/a/d/b"), api.ErrBusy},
		{"into its own subtree, below a file", home(), to("/a", "/a/g/b"), api.ErrBusy},
		{"into its own subtree, below nothing", home(), to("/a", "/a/x/y"), api.ErrBusy},
		{"below a file itself", home(), to("/f", "/f/b"), api.ErrBusy},
		{"to what exists in its own subtree", home(), to("/a", "/a/h"), api.ErrBusy},
		{"to the root", home(), to("/f", "/"), api.ErrName},
		{"to a parent that may not be written", home(), to("/f", "/p/f"), api.ErrPermission},
		{"to a parent that may be searched and not written", with(home(), 6, allowing(1, 5, dir(2, "q", 9))), to("/f", "/p/f"), api.ErrPermission},
		{"to itself", home(), to("/f", "/f"), api.ErrExists},
		{"a directory to itself", home(), to("/a", "/a"), api.ErrExists},
		{"to the other name of the file", home(), to("/f", "/a/g"), api.ErrExists},
		{"to an empty directory", home(), to("/a/d", "/z"), api.ErrExists},
		{"to the directory above", home(), to("/a/d", "/a"), api.ErrExists},
		{"to a full directory", crowded(), as(0, to("/b/0", "/a/n")), api.ErrTooMany},
		{"from a full directory to a full one", crowded(), as(0, to("/a/0", "/b/n")), api.ErrTooMany},

		{"nothing in a parent that may not be written", closed(), to("/x", "/a/f"), api.ErrPermission},
		{"nothing, into itself", home(), to("/x", "/x/y"), api.ErrNotFound},
		{"nothing, to what exists", home(), to("/x", "/f"), api.ErrNotFound},
		{"nothing, to the root", home(), to("/x", "/"), api.ErrNotFound},
		{"the root, into itself", home(), to("/", "/a/b"), api.ErrName},
		{"the root to the root", home(), to("/", "/"), api.ErrName},
		{"into itself, in a parent that may not be written", closed(), to("/a", "/a/b"), api.ErrPermission},
		{"to the root, from a parent that may not be written", closed(), to("/a", "/"), api.ErrPermission},
		{"into itself, where the user may not write", with(home(), 1, denying(-1, 2, home().Inodes[1])), to("/a", "/a/b"), api.ErrBusy},
		{"into itself, which the user may not search", home(), to("/p", "/p/b"), api.ErrBusy},
		{"to what exists in a full directory", crowded(), as(0, to("/b/0", "/a/3")), api.ErrExists},
		{"to what exists in a parent that may not be written", with(home(), 6, allowing(1, 5, dir(2, "q", 9))), to("/f", "/p/q"), api.ErrPermission},
		{"to a full directory that may not be written", with(oneFull, 2, allowing(-1, rwx, oneFull.Inodes[2])), to("/b/0", "/a/n"), api.ErrPermission},
	}
}

// below is chain, but /x is a directory with the empty directory y and the file
// z of 3 bytes.
func below(last api.Inode, components ...string) api.Tree {
	t := chain(last, components...)
	x := len(t.Inodes) - 1
	t.Inodes[x] = dir(0, "y", x+1, "z", x+2)
	t.Inodes = append(t.Inodes, dir(0), file(0, 3))
	return t
}

// TestRenameTooLarge checks the limits of paths in OpRename: those of all paths
// below Target count.
func TestRenameTooLarge(t *testing.T) {
	seven := strings.Join([]string{"", "a", "a", "a", "a", "a", "a", "a"}, "/")
	names := strings.Split(longest[1:], "/")
	long6, long7 := "/"+strings.Join(names[:6], "/"), "/"+strings.Join(names[:7], "/")
	six := stat(7, api.KindDir, 0, 0, 1, 0)
	fileBelow := with(with(below(dir(0), letters(7)...), 8, dir(0, "z", 10)), 9, api.Inode{})
	quota := changed(below(dir(0), letters(7)...), 1, func(inode *api.Inode) { inode.Quota = 1 })
	toFull := changed(below(dir(0), letters(7)...), 7, func(inode *api.Inode) { inode.Entries = wide(0, 16, 10).Entries })
	checkDone(t, api.OpRename, []done{
		{"a subtree to the deepest path", below(dir(0), letters(6)...), as(0, to("/x", seven)), move(0, "x", 6, "a", 7), six},
		{"a subtree to the longest path", below(dir(0), names[:6]...), as(0, to("/x", long6+"/"+strings.Repeat("m", 12))), move(0, "x", 6, strings.Repeat("m", 12), 7), six},
		{"an empty directory to the deepest path", below(dir(0), letters(7)...), as(0, to("/x/y", deepest)), move(8, "y", 7, "a", 9), stat(9, api.KindDir, 0, 0, 1, 0)},
	})
	checkRefused(t, api.OpRename, []refused{
		{"a subtree to a path that is one too deep", below(dir(0), letters(7)...), as(0, to("/x", deepest)), api.ErrTooLarge},
		{"a subtree with a file alone", fileBelow, as(0, to("/x", deepest)), api.ErrTooLarge},
		{"a subtree to a path that is too long", below(dir(0), names[:7]...), as(0, to("/x", long7+"/"+strings.Repeat("m", 11))), api.ErrTooLarge},
		{"too deep, and into a quota", quota, as(0, to("/x", deepest)), api.ErrTooLarge},
		{"too deep, and into a full directory", toFull, as(0, to("/x", seven+"/n")), api.ErrTooMany},
		{"too deep, to what exists", toFull, as(0, to("/x", seven+"/3")), api.ErrExists},
		{"too deep within one directory", changed(chain(dir(0), names...), 0, func(inode *api.Inode) { inode.Entries[0].Name = "n" }), as(0, to("/n", "/"+longName)), api.ErrTooLarge},
	})
}

// TestLink checks OpLink.
func TestLink(t *testing.T) {
	link := func(parent int, name string, n int) func(t *api.Tree) {
		return func(t *api.Tree) {
			enter(t, parent, name, n)
			touch(t, n)
		}
	}
	nearlyFull := with(crowded(), 1, wide(0, api.MaxDirEntries-1, 5))
	atMost := with(home(), 7, of(api.MaxValue, dir(1)))
	third, h := stat(3, api.KindFile, 1, 3, 3, 10), stat(5, api.KindFile, 2, 10, 2, 1)
	checkDone(t, api.OpLink, []done{
		{"beside it", home(), to("/f", "/b"), link(0, "b", 3), third},
		{"behind all others", home(), to("/f", "/zz"), link(0, "zz", 3), third},
		{"in another directory", home(), to("/a/g", "/z/g"), link(7, "g", 3), third},
		{"a file of another user", home(), to("/a/h", "/z/h"), link(7, "h", 5), h},
		{"a file that may be neither read nor written", with(home(), 5, denying(-1, 15, file(2, 10))), to("/a/h", "/h"), link(0, "h", 5), h},
		{"a file in a directory that may not be written", with(home(), 6, allowing(1, 4, dir(2, "q", 9))), to("/p/q", "/a/q"), link(1, "q", 9), stat(9, api.KindFile, 1, 1, 2, 1)},
		{"user 0", home(), as(0, to("/f", "/p/f")), link(6, "f", 3), third},
		{"the last entry that there is room for", nearlyFull, as(0, to("/b/0", "/a/f")), link(1, "f", 6), stat(6, api.KindFile, 0, 0, 2, 1)},
		{"a file with as many names as a directory has room for", crowded(), as(0, to("/a/0", "/d/n")), link(4, "n", 5), stat(5, api.KindFile, 0, 0, 17, 1)},
		{"without a free inode", crowded(), as(0, to("/b/0", "/d/n")), link(4, "n", 6), stat(6, api.KindFile, 0, 0, 2, 1)},
		{"to the deepest path", chain(dir(0), letters(7)...), as(0, to("/x", deepest)), link(7, "a", 8), stat(8, api.KindFile, 0, 0, 2, 1)},
		{"to the longest path", chain(dir(0), strings.Split(longest[1:], "/")[:7]...), as(0, to("/x", longest)), link(7, longName, 8), stat(8, api.KindFile, 0, 0, 2, 1)},
		{"versions that are MaxValue", atMost, to("/a/d/e", "/z/e"), func(t *api.Tree) {
			enter(t, 7, "e", 8)
			t.Inodes[7].Version = api.MaxValue
		}, stat(8, api.KindFile, 1, 5, 2, api.MaxValue)},
	})
	oneFull := with(crowded(), 0, allowing(-1, rwx, crowded().Inodes[0]))
	checkRefused(t, api.OpLink, []refused{
		{"nothing", home(), to("/x", "/b"), api.ErrNotFound},
		{"a directory", home(), to("/a", "/b"), api.ErrWrongType},
		{"the root", home(), to("/", "/b"), api.ErrWrongType},
		{"below the file itself", home(), to("/f", "/f/b"), api.ErrWrongType},
		{"to the root", home(), to("/f", "/"), api.ErrName},
		{"to a parent that may not be written", closed(), to("/f", "/b"), api.ErrPermission},
		{"to itself", home(), to("/f", "/f"), api.ErrExists},
		{"to its other name", home(), to("/f", "/a/g"), api.ErrExists},
		{"to a directory", home(), to("/f", "/z"), api.ErrExists},
		{"to a full directory", crowded(), as(0, to("/b/0", "/a/n")), api.ErrTooMany},
		{"within a full directory", crowded(), as(0, to("/a/0", "/a/n")), api.ErrTooMany},

		{"nothing to the root", home(), to("/x", "/"), api.ErrNotFound},
		{"nothing to what exists", home(), to("/x", "/f"), api.ErrNotFound},
		{"a directory to the root", home(), to("/a", "/"), api.ErrWrongType},
		{"a directory to what exists", home(), to("/a", "/f"), api.ErrWrongType},
		{"a directory to a parent that may not be written", closed(), to("/a", "/b"), api.ErrWrongType},
		{"to what exists in a parent that may not be written", closed(), to("/f", "/a"), api.ErrPermission},
		{"to what exists in a full directory", crowded(), as(0, to("/b/0", "/a/3")), api.ErrExists},
		{"to a full directory that may not be written", with(oneFull, 2, allowing(-1, rwx, oneFull.Inodes[2])), to("/b/0", "/a/n"), api.ErrPermission},
	})
}

// quotas is a tree of user 1 in which /q has a quota of 10 bytes, 8 of them
// used by /q/f and /q/d/g, and /q/d has one of 6 bytes. The files /h, /k and
// /l have 2, 3 and 0 bytes, and /q/d/g is /m too.
func quotas() api.Tree {
	return tree(
		limited(100, dir(1, "e", 9, "h", 4, "k", 5, "l", 6, "m", 3, "q", 1)),
		limited(10, dir(1, "d", 7, "f", 2)),
		file(1, 5),
		file(1, 3),
		file(1, 2),
		file(1, 3),
		file(1, 0),
		limited(6, dir(1, "g", 3)),
		api.Inode{},
		dir(1, "h", 4, "o", 10),
		file(1, 1),
	)
}

// TestQuotas checks when a request exceeds a quota.
func TestQuotas(t *testing.T) {
	write := func(p string, offset, n int) api.Request {
		return api.Request{User: 1, Path: p, Offset: offset, Data: make([]byte, n)}
	}
	size := func(p string, n int) api.Request { return api.Request{User: 1, Path: p, Size: n} }
	extended := func(n, size int) func(t *api.Tree) {
		return func(t *api.Tree) { contents(n, pad(size, t.Inodes[n].Data...)...)(t) }
	}
	met := with(quotas(), 2, file(1, 7))
	checkDone(t, api.OpWrite, []done{
		{"a quota is met", quotas(), write("/q/f", 5, 2), extended(2, 7), stat(2, api.KindFile, 1, 7, 1, 1)},
		{"a quota that was met is met", met, write("/q/f", 0, 7), contents(2, pad(7)...), stat(2, api.KindFile, 1, 7, 1, 1)},
		{"no data under a quota that is met", met, write("/q/f", 90, 0), contents(2, 1, 2, 3, 4, 5, 6, 7), stat(2, api.KindFile, 1, 7, 1, 1)},
		{"a file under no quota but the root's", quotas(), write("/h", 2, 86), extended(4, 88), stat(4, api.KindFile, 1, 88, 2, 1)},
	})
	checkRefused(t, api.OpWrite, []refused{
		{"a quota is exceeded by one byte", quotas(), write("/q/f", 5, 3), api.ErrNoSpace},
		{"a quota is exceeded by a gap", quotas(), write("/q/f", 7, 1), api.ErrNoSpace},
		{"a quota that is met is exceeded", met, write("/q/f", 7, 1), api.ErrNoSpace},
		{"the upper quota only", quotas(), write("/q/d/g", 3, 3), api.ErrNoSpace},
		{"the lower quota only", with(quotas(), 2, file(1, 1)), write("/q/d/g", 3, 4), api.ErrNoSpace},
		{"a quota by another name", quotas(), write("/m", 3, 3), api.ErrNoSpace},
		{"the root's quota", quotas(), write("/h", 2, 87), api.ErrNoSpace},
	})
	checkDone(t, api.OpTruncate, []done{
		{"a quota is met", quotas(), size("/q/f", 7), extended(2, 7), stat(2, api.KindFile, 1, 7, 1, 1)},
		{"less under a quota that is met", met, size("/q/f", 6), contents(2, 1, 2, 3, 4, 5, 6), stat(2, api.KindFile, 1, 6, 1, 1)},
	})
	checkRefused(t, api.OpTruncate, []refused{
		{"a quota is exceeded by one byte", quotas(), size("/q/f", 8), api.ErrNoSpace},
		{"a quota by another name", quotas(), size("/m", 6), api.ErrNoSpace},
	})
	checkRefused(t, api.OpSetQuota, []refused{{"less than the usage with another name", quotas(), size("/q/d", 2), api.ErrNoSpace}})
	checkDone(t, api.OpCreate, []done{{"an empty file under a quota that is met", met, by(1, "/q/n"), func(t *api.Tree) {
		t.Inodes[8] = file(1, 0)
		enter(t, 1, "n", 8)
	}, stat(8, api.KindFile, 1, 0, 1, 0)}})
}

// TestQuotasOfNames checks when a request that gives a file or directory
// another place exceeds a quota: a file counts once in each directory.
func TestQuotasOfNames(t *testing.T) {
	met := with(quotas(), 2, file(1, 7))
	linked := func(parent int, name string, n int) func(t *api.Tree) {
		return func(t *api.Tree) {
			enter(t, parent, name, n)
			touch(t, n)
		}
	}
	checkDone(t, api.OpRename, []done{
		{"a file, and a quota is met", quotas(), to("/h", "/q/h"), move(0, "h", 1, "h", 4), stat(4, api.KindFile, 1, 2, 2, 0)},
		{"a directory, and a quota is met", with(quotas(), 10, file(1, 0)), to("/e", "/q/e"), move(0, "e", 1, "e", 9), stat(9, api.KindDir, 1, 0, 1, 0)},
		{"an empty file under a quota that is met", met, to("/l", "/q/l"), move(0, "l", 1, "l", 6), stat(6, api.KindFile, 1, 0, 1, 0)},
		{"a file that counts already", met, to("/m", "/q/m"), move(0, "m", 1, "m", 3), stat(3, api.KindFile, 1, 3, 2, 0)},
		{"within the directory", met, to("/q/f", "/q/n"), within(1, "f", "n", 2), stat(2, api.KindFile, 1, 7, 1, 0)},
		{"further down, and a quota is met", with(quotas(), 3, file(1, 1)), to("/q/f", "/q/d/f"), move(1, "f", 7, "f", 2), stat(2, api.KindFile, 1, 5, 1, 0)},
		{"out of a directory", met, to("/q/d/g", "/g"), move(7, "g", 0, "g", 3), stat(3, api.KindFile, 1, 3, 2, 0)},
		{"a directory with a quota", quotas(), to("/q/d", "/e/d"), move(1, "d", 9, "d", 7), stat(7, api.KindDir, 1, 0, 1, 0)},
	})
	checkRefused(t, api.OpRename, []refused{
		{"a quota is exceeded by one byte", quotas(), to("/k", "/q/k"), api.ErrNoSpace},
		{"a quota is exceeded by a directory", quotas(), to("/e", "/q/e"), api.ErrNoSpace},
		{"the lower quota only", quotas(), to("/q/f", "/q/d/f"), api.ErrNoSpace},
		{"a quota far above", quotas(), to("/k", "/q/d/k"), api.ErrNoSpace},
		{"a quota is exceeded, into itself", quotas(), to("/e", "/e/o/x"), api.ErrBusy},
		{"a quota is exceeded, to what exists", quotas(), to("/k", "/q/f"), api.ErrExists},
	})
	checkDone(t, api.OpLink, []done{
		{"a quota is met", quotas(), to("/h", "/q/h"), linked(1, "h", 4), stat(4, api.KindFile, 1, 2, 3, 1)},
		{"a file that counts already", met, to("/m", "/q/m"), linked(1, "m", 3), stat(3, api.KindFile, 1, 3, 3, 1)},
		{"an empty file under a quota that is met", met, to("/l", "/q/d/l"), linked(7, "l", 6), stat(6, api.KindFile, 1, 0, 2, 1)},
		{"beside itself", met, to("/q/f", "/q/n"), linked(1, "n", 2), stat(2, api.KindFile, 1, 7, 2, 1)},
	})
	crammed := with(with(quotas(), 1, limited(10, wide(1, api.MaxDirEntries, 2))), 2, file(1, 8))
	crammed.Inodes[7] = api.Inode{}
	checkRefused(t, api.OpLink, []refused{
		{"a quota is exceeded by one byte", quotas(), to("/k", "/q/k"), api.ErrNoSpace},
		{"the lower quota only", with(quotas(), 2, file(1, 4)), to("/q/f", "/q/d/f"), api.ErrNoSpace},
		{"a quota is exceeded, and the directory is full", crammed, to("/k", "/q/n"), api.ErrTooMany},
		{"a quota is exceeded, to what exists", quotas(), to("/k", "/q/f"), api.ErrExists},
	})
	checkRefused(t, api.OpRename, []refused{{"a quota is exceeded, and the directory is full", crammed, to("/k", "/q/n"), api.ErrTooMany}})
}
