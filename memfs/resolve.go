package memfs

import (
	"cmp"
	"slices"

	"farshelf/api"
	"farshelf/path"
)

const (
	root    = 0  // the number of the root directory
	missing = -1 // the number of an inode that does not exist
)

// place is where a path leads.
type place struct {
	parent int    // the directory that contains, or would contain, the last component
	name   string // the last component; empty for the root
	inode  int    // missing if the path does not exist
}

// resolve visits the components of a path.
func (x *execution) resolve(p string) (at place, code int) {
	components, _ := path.Split(p) // the paths of a valid request are valid
	at = place{inode: root}
	for _, name := range components {
		switch {
		case at.inode == missing:
			return place{}, api.ErrNotFound
		case x.tree.Inodes[at.inode].Kind == api.KindFile:
			return place{}, api.ErrWrongType
		case !x.allows(at.inode, api.PermSearch):
			return place{}, api.ErrPermission
		}
		at = place{parent: at.inode, name: name, inode: lookUp(x.tree.Inodes[at.inode].Entries, name)}
	}
	return at, api.OK
}

// mustExist resolves a path that must exist.
func (x *execution) mustExist(p string) (at place, code int) {
	return unlessMissing(x.resolve(p))
}

// mustBeVacant resolves a path that must be vacant.
func (x *execution) mustBeVacant(p string) (at place, code int) {
	at, code = x.resolveEntry(p)
	if code == api.OK && at.inode != missing {
		code = api.ErrExists
	}
	return at, code
}

// mustBeRemovable resolves a path that must be removable.
func (x *execution) mustBeRemovable(p string) (at place, code int) {
	return unlessMissing(x.resolveEntry(p))
}

// resolveEntry resolves a path whose entry the user must be permitted to add
// or remove.
func (x *execution) resolveEntry(p string) (at place, code int) {
	at, code = x.resolve(p)
	switch {
	case code != api.OK:
	case at.name == "":
		code = api.ErrName
	case !x.allows(at.parent, api.PermWrite):
		code = api.ErrPermission
	}
	return at, code
}

// unlessMissing passes on where a path leads, with ErrNotFound if the path does
// not exist.
func unlessMissing(at place, code int) (place, int) {
	if code == api.OK && at.inode == missing {
		code = api.ErrNotFound
	}
	return at, code
}

// isBelow reports whether the valid path lower lies below upper.
func isBelow(upper, lower string) bool {
	contains, _ := path.Contains(upper, lower)
	return contains && upper != lower
}

// find returns the position of the entry with a name in a valid directory, or
// the position where it would be inserted, and whether there is one.
func find(entries []api.DirEntry, name string) (int, bool) {
	return slices.BinarySearchFunc(entries, name, func(e api.DirEntry, name string) int { return cmp.Compare(e.Name, name) })
}

// lookUp returns the inode of the entry with a name, or missing.
func lookUp(entries []api.DirEntry, name string) int {
	position, found := find(entries, name)
	if !found {
		return missing
	}
	return entries[position].Inode
}
