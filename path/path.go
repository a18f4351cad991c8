// Package path parses and normalizes file system paths.
package path

import (
	"slices"
	"strings"

	"farshelf/api"
)

// Split returns the components of a path.
func Split(path string) ([]string, api.Fault) {
	if len(path) > api.MaxPathBytes {
		return nil, api.Fault{Code: api.ErrTooMany}
	}
	rest, rooted := strings.CutPrefix(path, "/")
	if !rooted {
		return nil, api.Fault{Code: api.ErrMalformed}
	}
	// strings.Split would make one empty component of the root.
	if rest == "" {
		return nil, api.Fault{}
	}
	components := strings.Split(rest, "/")
	if fault := checkComponents(components); fault.Code != api.OK {
		return nil, fault
	}
	return components, api.Fault{}
}

// Join returns the path with the given components.
func Join(l []string) (string, api.Fault) {
	if fault := checkComponents(l); fault.Code != api.OK {
		return "", fault
	}
	path := "/" + strings.Join(l, "/")
	if len(path) > api.MaxPathBytes {
		return "", api.Fault{Code: api.ErrTooMany}
	}
	return path, api.Fault{}
}

// Clean returns the shortest path equivalent to text, resolving "." and "..".
func Clean(text string) (string, api.Fault) {
	if len(text) > api.MaxPathBytes {
		return "", api.Fault{Code: api.ErrTooMany}
	}
	var remaining []string
	follow := func(element string) {
		switch element {
		case "", ".":
		case "..":
			remaining = remaining[:max(len(remaining)-1, 0)]
		default:
			remaining = append(remaining, element)
		}
	}
	for _, element := range strings.Split(text, "/") {
		follow(element)
	}
	return Join(remaining)
}

// Contains reports whether b is equal to a or located below a.
func Contains(a, b string) (bool, api.Fault) {
	upper, fault := Split(a)
	if fault.Code != api.OK {
		return false, fault
	}
	lower, fault := Split(b)
	if fault.Code != api.OK {
		return false, api.Fault{Code: fault.Code, Index: -1 - fault.Index}
	}
	// Whole components are compared: "/ab" begins with "/a" but is not below it.
	below := len(upper) <= len(lower) && slices.Equal(upper, lower[:len(upper)])
	return below, api.Fault{}
}

// checkComponents returns the errors that Split and Join share, in their
// common order: a bad name is reported even if there are too many components.
func checkComponents(components []string) api.Fault {
	bad := slices.IndexFunc(components, func(component string) bool { return !isName(component) })
	if bad >= 0 {
		return api.Fault{Code: api.ErrName, Index: bad}
	}
	if len(components) > api.MaxDepth {
		return api.Fault{Code: api.ErrTooLarge}
	}
	return api.Fault{}
}

// isName reports whether text is a name.
func isName(text string) bool {
	if text == "" || len(text) > api.MaxNameBytes || text == "." || text == ".." {
		return false
	}
	// Bytes that are not valid UTF-8 read as a rune that no name contains.
	return !strings.ContainsFunc(text, func(c rune) bool { return !isNameRune(c) })
}

// isNameRune reports whether c may occur in a name.
func isNameRune(c rune) bool {
	switch {
	case 'a' <= c && c <= 'z', 'A' <= c && c <= 'Z', '0' <= c && c <= '9':
		return true
	}
	return c == '.' || c == '_' || c == '-'
}
