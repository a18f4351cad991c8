package memfs

import (
	"farshelf/acl"
	"farshelf/api"
	"farshelf/path"
	"farshelf/xattr"
)

// checkRequest returns the code of the first error in the form of a request.
func checkRequest(r api.Request) int {
	unused, known := withoutUsed(r)
	switch {
	case !known:
		return api.ErrKind
	case !isBetween(r.User, api.MaxUser):
		return api.ErrRange
	case !isBlank(unused):
		return api.ErrMalformed
	case !isPath(r.Path) || usesTarget(r.Kind) && !isPath(r.Target):
		return api.ErrName
	case !isBetween(r.Offset, api.MaxValue) || !isBetween(r.Size, maxSize(r.Kind)):
		return api.ErrRange
	case len(r.Data) > api.MaxFileBytes:
		return api.ErrTooMany
	}
	if fault := acl.Validate(r.ACL); fault.Code != api.OK {
		return fault.Code
	}
	if r.Kind == api.OpSetAttr {
		// An empty list has room for the attribute, so only the attribute can be
		// wrong.
		_, fault := xattr.Set(nil, r.Attr)
		return fault.Code
	}
	return api.OK
}

// withoutUsed returns r without the values of the fields that its kind uses,
// and whether the kind is known.
func withoutUsed(r api.Request) (api.Request, bool) {
	switch r.Kind {
	case api.OpMkdir, api.OpCreate, api.OpList, api.OpStat, api.OpRemove:
	case api.OpRead:
		r.Offset, r.Size = 0, 0
	case api.OpWrite:
		r.Offset, r.Data = 0, nil
	case api.OpTruncate, api.OpSetQuota, api.OpChown:
		r.Size = 0
	case api.OpRename, api.OpLink:
		r.Target = ""
	case api.OpSetACL:
		r.ACL = nil
	case api.OpSetAttr:
		r.Attr = api.Attr{}
	default:
		return api.Request{}, false
	}
	return r, true
}

// isBlank reports whether all fields are zero or empty that not every kind
// uses.
func isBlank(r api.Request) bool {
	return r.Target == "" && r.Offset == 0 && r.Size == 0 && len(r.Data) == 0 && len(r.ACL) == 0 && r.Attr == api.Attr{}
}

// usesTarget reports whether a request of a kind has a Target.
func usesTarget(kind int) bool {
	return kind == api.OpRename || kind == api.OpLink
}

// maxSize returns the largest Size of a request of a kind.
func maxSize(kind int) int {
	switch kind {
	case api.OpSetQuota:
		return api.MaxQuota
	case api.OpChown:
		return api.MaxUser
	}
	return api.MaxValue
}

// isBetween reports whether number is between 0 and limit.
func isBetween(number, limit int) bool {
	return 0 <= number && number <= limit
}

// isPath reports whether text is a path.
func isPath(text string) bool {
	_, fault := path.Split(text)
	return fault.Code == api.OK
}
