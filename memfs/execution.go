package memfs

import (
	"slices"

	"farshelf/acl"
	"farshelf/api"
	"farshelf/fstree"
	"farshelf/xattr"
)

const (
	free         = 0 // the Kind of a free inode
	anyKind      = 0 // asks for neither a directory nor a file
	noPermission = 0 // asks for no permission
)

// execution is a valid request with the valid tree on which it is executed.
// The tree is changed in place, and it is of no use after an error.
type execution struct {
	tree    api.Tree
	request api.Request
}

// perform executes the request and returns the number of the inode that the
// reply is about, or the code of the first error.
func (x *execution) perform() (n, code int) {
	switch x.request.Kind {
	case api.OpMkdir:
		return x.create(api.KindDir)
	case api.OpCreate:
		return x.create(api.KindFile)
	case api.OpRead:
		return x.reach(api.KindFile, api.PermRead)
	case api.OpWrite, api.OpTruncate:
		return x.change(api.KindFile, api.PermWrite)
	case api.OpList:
		return x.reach(api.KindDir, api.PermRead)
	case api.OpRemove:
		return x.remove()
	case api.OpRename:
		return x.rename()
	case api.OpLink:
		return x.link()
	case api.OpSetACL, api.OpChown:
		return x.change(anyKind, api.PermAdmin)
	case api.OpSetQuota:
		return x.change(api.KindDir, api.PermAdmin)
	case api.OpSetAttr:
		return x.change(anyKind, api.PermWrite)
	}
	return x.reach(anyKind, noPermission) // api.OpStat
}

// checkLimits returns the code for a limit that only the tree after a request
// shows, which comes after all other codes of the request: ErrTooLarge for a
// path, ErrNoSpace for a quota. The tree met its quotas before, so that a usage
// beyond its quota has grown too.
func (x *execution) checkLimits() int {
	return fstree.Validate(x.tree).Code
}

// reply returns the reply to the request, which is about inode n.
func (x *execution) reply(n int) api.Reply {
	inode, r := x.tree.Inodes[n], x.request
	switch r.Kind {
	case api.OpRead:
		start, end := min(r.Offset, len(inode.Data)), min(r.Offset+r.Size, len(inode.Data))
		return api.Reply{Data: slices.Clone(inode.Data[start:end])}
	case api.OpList:
		names := make([]string, len(inode.Entries))
		for i, e := range inode.Entries {
			names[i] = e.Name
		}
		return api.Reply{Names: names}
	case api.OpRemove:
		return api.Reply{}
	}
	return api.Reply{Stat: api.Stat{
		Inode:   n,
		Kind:    inode.Kind,
		Owner:   inode.Owner,
		Size:    len(inode.Data),
		Links:   x.links(n),
		Version: inode.Version,
	}}
}

// create makes Path an empty directory or file.
func (x *execution) create(kind int) (n, code int) {
	at, code := x.mustBeVacant(x.request.Path)
	switch {
	case code != api.OK:
		return 0, code
	case x.isFull(at.parent):
		return 0, api.ErrTooMany
	}
	n = slices.IndexFunc(x.tree.Inodes, func(inode api.Inode) bool { return inode.Kind == free })
	if n < 0 {
		n = len(x.tree.Inodes)
		if n == api.MaxInodes {
			return 0, api.ErrNoSpace
		}
		x.tree.Inodes = append(x.tree.Inodes, api.Inode{})
	}
	x.tree.Inodes[n] = api.Inode{Kind: kind, Owner: x.request.User}
	x.addEntry(at, n)
	x.touch(at.parent)
	return n, api.OK
}

// reach returns the inode of Path, which has to be of a kind, and on which the
// user needs a permission.
func (x *execution) reach(kind, permission int) (n, code int) {
	at, code := x.mustExist(x.request.Path)
	switch {
	case code != api.OK:
		return 0, code
	case kind != anyKind && kind != x.tree.Inodes[at.inode].Kind:
		return 0, api.ErrWrongType
	case permission != noPermission && !x.allows(at.inode, permission):
		return 0, api.ErrPermission
	}
	return at.inode, api.OK
}

// change replaces a field of the inode that reach returns.
func (x *execution) change(kind, permission int) (n, code int) {
	n, code = x.reach(kind, permission)
	if code != api.OK {
		return 0, code
	}
	if code = changeField(&x.tree.Inodes[n], x.request); code != api.OK {
		return 0, code
	}
	x.touch(n)
	return n, api.OK
}

// remove removes the name Path, and its inode with the last name.
func (x *execution) remove() (n, code int) {
	at, code := x.mustBeRemovable(x.request.Path)
	switch {
	case code != api.OK:
		return 0, code
	case len(x.tree.Inodes[at.inode].Entries) > 0:
		return 0, api.ErrBusy
	}
	x.removeEntry(at)
	x.touch(at.parent)
	if x.links(at.inode) == 0 {
		x.tree.Inodes[at.inode] = api.Inode{}
	} else {
		x.touch(at.inode)
	}
	return at.inode, api.OK
}

// rename moves the entry Path to Target.
func (x *execution) rename() (n, code int) {
	from, code := x.mustBeRemovable(x.request.Path)
	if code != api.OK {
		return 0, code
	}
	if isBelow(x.request.Path, x.request.Target) {
		return 0, api.ErrBusy
	}
	to, code := x.mustBeVacant(x.request.Target)
	switch {
	case code != api.OK:
		return 0, code
	case to.parent != from.parent && x.isFull(to.parent):
		return 0, api.ErrTooMany
	}
	x.removeEntry(from)
	x.addEntry(to, from.inode)
	x.touch(from.parent)
	if to.parent != from.parent {
		x.touch(to.parent)
	}
	return from.inode, api.OK
}

// link gives the file Path the additional name Target.
func (x *execution) link() (n, code int) {
	n, code = x.reach(api.KindFile, noPermission)
	if code != api.OK {
		return 0, code
	}
	to, code := x.mustBeVacant(x.request.Target)
	switch {
	case code != api.OK:
		return 0, code
	case x.isFull(to.parent):
		return 0, api.ErrTooMany
	}
	x.addEntry(to, n)
	x.touch(to.parent)
	x.touch(n)
	return n, api.OK
}

// allows reports whether the user has a permission on inode n.
func (x *execution) allows(n, permission int) bool {
	inode := x.tree.Inodes[n]
	allowed, _ := acl.Allowed(inode.ACL, inode.Owner, x.request.User, permission) // all of them are valid
	return allowed
}

// isFull reports whether directory n has no room for another entry.
func (x *execution) isFull(n int) bool {
	return len(x.tree.Inodes[n].Entries) == api.MaxDirEntries
}

// links returns the number of entries that refer to inode n.
func (x *execution) links(n int) int {
	links := 0
	for _, inode := range x.tree.Inodes {
		for _, e := range inode.Entries {
			if e.Inode == n {
				links++
			}
		}
	}
	return links
}

// touch counts a modification of inode n.
func (x *execution) touch(n int) {
	inode := &x.tree.Inodes[n]
	inode.Version = min(inode.Version+1, api.MaxValue)
}

// addEntry adds the entry of a vacant place, for inode n.
func (x *execution) addEntry(at place, n int) {
	directory := &x.tree.Inodes[at.parent]
	position, _ := find(directory.Entries, at.name)
	directory.Entries = slices.Insert(directory.Entries, position, api.DirEntry{Name: at.name, Inode: n})
}

// removeEntry removes the entry of a place that exists.
func (x *execution) removeEntry(at place) {
	directory := &x.tree.Inodes[at.parent]
	position, _ := find(directory.Entries, at.name)
	directory.Entries = slices.Delete(directory.Entries, position, position+1)
}

// changeField replaces the field of an inode that a request is about, and
// returns the code of the error of its new value.
func changeField(inode *api.Inode, r api.Request) (code int) {
	switch r.Kind {
	case api.OpWrite, api.OpTruncate:
		size := sizeAfter(len(inode.Data), r)
		if size > api.MaxFileBytes {
			return api.ErrTooLarge
		}
		inode.Data = dataAfter(inode.Data, r, size)
	case api.OpSetACL:
		inode.ACL = slices.Clone(r.ACL)
	case api.OpSetQuota:
		inode.Quota = r.Size
	case api.OpChown:
		inode.Owner = r.Size
	case api.OpSetAttr:
		attrs, fault := xattr.Set(inode.Attrs, r.Attr)
		if fault.Code != api.OK {
			return api.ErrTooMany // the attribute itself is valid, so the list has no room
		}
		inode.Attrs = attrs
	}
	return api.OK
}

// sizeAfter returns the size that an OpWrite or OpTruncate gives a file.
func sizeAfter(size int, r api.Request) int {
	switch {
	case r.Kind == api.OpTruncate:
		return r.Size
	case len(r.Data) == 0:
		return size
	}
	return max(size, r.Offset+len(r.Data))
}

// dataAfter returns the data that an OpWrite or OpTruncate gives a file, which
// have the given size.
func dataAfter(old []byte, r api.Request, size int) []byte {
	data := make([]byte, size)
	copy(data, old)
	// Without Data, Offset may lie behind the end.
	if len(r.Data) > 0 {
		copy(data[r.Offset:], r.Data)
	}
	return data
}
