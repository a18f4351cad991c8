package memfs_test

import (
	"fmt"
	"math"
	"slices"
	"strings"
	"testing"

	"farshelf/api"
	"farshelf/memfs"
)

// kinds are all kinds of requests.
var kinds = []int{
	api.OpMkdir, api.OpCreate, api.OpRead, api.OpWrite, api.OpTruncate, api.OpList, api.OpStat,
	api.OpRemove, api.OpRename, api.OpLink, api.OpSetACL, api.OpSetAttr, api.OpSetQuota, api.OpChown,
}

// uses are the fields that each kind uses beside User and Path.
var uses = map[int]string{
	api.OpRead:     "Offset Size",
	api.OpWrite:    "Offset Data",
	api.OpTruncate: "Size",
	api.OpRename:   "Target",
	api.OpLink:     "Target",
	api.OpSetACL:   "ACL",
	api.OpSetAttr:  "Attr",
	api.OpSetQuota: "Size",
	api.OpChown:    "Size",
}

// usesField reports whether a kind uses a field that not every kind uses.
func usesField(kind int, field string) bool {
	return slices.Contains(strings.Fields(uses[kind]), field)
}

// plain returns a valid request of a kind with all the fields that it uses.
func plain(kind int) api.Request {
	r := api.Request{Kind: kind, User: 1, Path: "/a/b"}
	for field, set := range setters {
		if usesField(kind, field) {
			set(&r)
		}
	}
	return r
}

// setters give a field a value that is neither zero nor an error.
var setters = map[string]func(r *api.Request){
	"Target": func(r *api.Request) { r.Target = "/c" },
	"Offset": func(r *api.Request) { r.Offset = 1 },
	"Size":   func(r *api.Request) { r.Size = 2 },
	"Data":   func(r *api.Request) { r.Data = []byte{0} },
	"ACL":    func(r *api.Request) { r.ACL = []api.ACLEntry{{User: 1, Allow: api.PermRead}} },
	"Attr":   func(r *api.Request) { r.Attr = api.Attr{Name: "k", Value: "v"} },
}

// checkForm compares a result of ValidateRequest, and of Apply and Run, which
// have its errors.
func checkForm(t *testing.T, about string, r api.Request, code int) {
	t.Helper()
	if got := memfs.ValidateRequest(r); got != fault(code, 0) {
		t.Errorf("%s: ValidateRequest(%+v) = %v, want code %d", about, r, got, code)
	}
	if code == api.OK {
		return
	}
	if after, reply, got := memfs.Apply(home(), r); got != fault(code, -1) || show(after, reply) != show(api.Tree{}, api.Reply{}) {
		t.Errorf("%s: Apply of %+v = %+v, %+v, %v, want code %d", about, r, after, reply, got, code)
	}
	l := []api.Request{plain(api.OpStat), plain(api.OpMkdir), r, {}}
	if after, replies, got := memfs.Run(l); got != fault(code, 2) || len(after.Inodes)+len(replies) > 0 {
		t.Errorf("%s: Run of %+v = %+v, %+v, %v, want code %d", about, r, after, replies, got, code)
	}
}

// TestPlainRequests checks R5.1 for valid requests of all kinds, with the
// fields that they use, and with these fields zero where this is valid.
func TestPlainRequests(t *testing.T) {
	for _, kind := range kinds {
		checkForm(t, "all fields", plain(kind), api.OK)
		code := api.OK
		if usesField(kind, "Target") || usesField(kind, "Attr") {
			code = api.ErrName
		}
		checkForm(t, "no fields", api.Request{Kind: kind, User: 1, Path: "/a/b"}, code)
		root := plain(kind)
		root.Path = "/"
		checkForm(t, "the root", root, api.OK)
	}
}

// TestKinds checks R5.1 for kinds that are unknown.
func TestKinds(t *testing.T) {
	for _, kind := range []int{math.MinInt, -1, 0, 15, 16, 100, math.MaxInt} {
		checkForm(t, "an unknown kind", api.Request{Kind: kind, Path: "/a"}, api.ErrKind)
	}
	for kind := 1; kind <= 14; kind++ {
		if kinds[kind-1] != kind {
			t.Errorf("kind %d is not tested", kind)
		}
	}
}

// TestUnusedFields checks R5.1 for every field that a kind does not use.
func TestUnusedFields(t *testing.T) {
	others := map[string]func(r *api.Request){
		"Offset": func(r *api.Request) { r.Offset = -1 },
		"Size":   func(r *api.Request) { r.Size = math.MinInt },
		"Target": func(r *api.Request) { r.Target = "no path" },
		"Data":   func(r *api.Request) { r.Data = make([]byte, 1000) },
		"ACL":    func(r *api.Request) { r.ACL = make([]api.ACLEntry, 7) },
		"Attr":   func(r *api.Request) { r.Attr.Name = "k" },
	}
	tested := 0
	for _, kind := range kinds {
		for field, set := range setters {
			if usesField(kind, field) {
				continue
			}
			for _, change := range []func(r *api.Request){set, others[field]} {
				r := plain(kind)
				change(&r)
				checkForm(t, field, r, api.ErrMalformed)
			}
			tested++
		}
		if !usesField(kind, "Attr") {
			r := plain(kind)
			r.Attr.Value = "v"
			checkForm(t, "the value of an attribute", r, api.ErrMalformed)
		}
	}
	if tested != 14*6-11 {
		t.Errorf("%d unused fields", tested)
	}
}

// TestNumbers checks R5.1 for every number at its bounds and one beyond them.
func TestNumbers(t *testing.T) {
	for _, kind := range kinds {
		sizeLimit := api.MaxValue
		switch kind {
		case api.OpSetQuota:
			sizeLimit = api.MaxQuota
		case api.OpChown:
			sizeLimit = api.MaxUser
		}
		checkNumbers(t, kind, api.MaxUser, func(r *api.Request, number int) { r.User = number })
		if usesField(kind, "Offset") {
			checkNumbers(t, kind, api.MaxValue, func(r *api.Request, number int) { r.Offset = number })
		}
		if usesField(kind, "Size") {
			checkNumbers(t, kind, sizeLimit, func(r *api.Request, number int) { r.Size = number })
		}
	}
}

// checkNumbers checks a number of a request whose bounds are 0 and limit.
func checkNumbers(t *testing.T, kind, limit int, set func(r *api.Request, number int)) {
	t.Helper()
	for _, number := range []int{math.MinInt, -api.MaxValue, -1, 0, 1, limit - 1, limit, limit + 1, math.MaxInt} {
		r := plain(kind)
		set(&r, number)
		code := api.OK
		if number < 0 || number > limit {
			code = api.ErrRange
		}
		checkForm(t, "a number", r, code)
	}
}

// TestPaths checks R5.1 for Path and Target.
func TestPaths(t *testing.T) {
	valid := []string{"/", "/a", "/a/b/c", "/" + longName, deepest, longest, "/...", "/-", "/A.z_0-9"}
	invalid := []string{"", "a", "a/b", "//", "/a/", "/a//b", "/.", "/a/..", "/" + longName + "n", "/a b", "/a\x00", "/\xff", "/*", deepest + "/a", longest + "n", strings.Repeat("/", 101), strings.Repeat("/a", 1<<16)}
	for _, kind := range kinds {
		check := func(p string, code int) {
			r := plain(kind)
			r.Path = p
			checkForm(t, "Path", r, code)
			if usesField(kind, "Target") {
				r.Path, r.Target = "/a/b", p
				checkForm(t, "Target", r, code)
			}
		}
		for _, p := range valid {
			check(p, api.OK)
		}
		for _, p := range invalid {
			check(p, api.ErrName)
		}
	}
	checkForm(t, "both", api.Request{Kind: api.OpRename, Path: "a", Target: "c"}, api.ErrName)
}

// TestContents checks R5.1 for Data, ACL and Attr.
func TestContents(t *testing.T) {
	read := api.ACLEntry{User: 1, Allow: api.PermRead}
	cases := []struct {
		about   string
		request api.Request
		code    int
	}{
		{"the document's example", api.Request{Kind: api.OpRead, Path: "/f", Data: []byte{1}}, api.ErrMalformed},

		{"MaxFileBytes bytes", api.Request{Kind: api.OpWrite, Data: make([]byte, api.MaxFileBytes)}, api.OK},
		{"MaxFileBytes bytes far behind", api.Request{Kind: api.OpWrite, Offset: api.MaxValue, Data: make([]byte, api.MaxFileBytes)}, api.OK},
		{"one byte more", api.Request{Kind: api.OpWrite, Data: make([]byte, api.MaxFileBytes+1)}, api.ErrTooMany},
		{"many bytes more", api.Request{Kind: api.OpWrite, Data: make([]byte, 1<<16)}, api.ErrTooMany},

		{"a full list", api.Request{Kind: api.OpSetACL, ACL: slices.Repeat([]api.ACLEntry{read}, api.MaxACLEntries)}, api.OK},
		{"everyone", api.Request{Kind: api.OpSetACL, ACL: []api.ACLEntry{{User: -1, Allow: 10, Deny: 5}}}, api.OK},
		{"one entry too many", api.Request{Kind: api.OpSetACL, ACL: slices.Repeat([]api.ACLEntry{read}, api.MaxACLEntries+1)}, api.ErrTooMany},
		{"no user", api.Request{Kind: api.OpSetACL, ACL: []api.ACLEntry{read, {User: 8, Allow: 1}}}, api.ErrRange},
		{"a negative user", api.Request{Kind: api.OpSetACL, ACL: []api.ACLEntry{{User: -2, Allow: 1}}}, api.ErrRange},
		{"no permissions", api.Request{Kind: api.OpSetACL, ACL: []api.ACLEntry{read, read, {User: 1}}}, api.ErrMalformed},
		{"an unknown permission", api.Request{Kind: api.OpSetACL, ACL: []api.ACLEntry{{User: 1, Deny: 16}}}, api.ErrMalformed},
		{"a permission allowed and denied", api.Request{Kind: api.OpSetACL, ACL: []api.ACLEntry{{User: 1, Allow: 3, Deny: 6}}}, api.ErrMalformed},
		{"too many entries, all of them wrong", api.Request{Kind: api.OpSetACL, ACL: make([]api.ACLEntry, 7)}, api.ErrTooMany},
		{"a malformed entry, then no user", api.Request{Kind: api.OpSetACL, ACL: []api.ACLEntry{{}, {User: 8}}}, api.ErrMalformed},

		{"the longest attribute", api.Request{Kind: api.OpSetAttr, Attr: api.Attr{Name: longName, Value: longValue}}, api.OK},
		{"a removed attribute", api.Request{Kind: api.OpSetAttr, Attr: api.Attr{Name: "k"}}, api.OK},
		{"a value of any bytes", api.Request{Kind: api.OpSetAttr, Attr: api.Attr{Name: "k", Value: "\x00\xff/ "}}, api.OK},
		{"no name", api.Request{Kind: api.OpSetAttr, Attr: api.Attr{Value: "v"}}, api.ErrName},
		{"a path as the name", api.Request{Kind: api.OpSetAttr, Attr: api.Attr{Name: "/k", Value: "v"}}, api.ErrName},
		{"two components as the name", api.Request{Kind: api.OpSetAttr, Attr: api.Attr{Name: "k/l", Value: "v"}}, api.ErrName},
		{"dots as the name", api.Request{Kind: api.OpSetAttr, Attr: api.Attr{Name: "..", Value: "v"}}, api.ErrName},
		{"a name that is too long", api.Request{Kind: api.OpSetAttr, Attr: api.Attr{Name: longName + "n", Value: "v"}}, api.ErrName},
		{"a name that is too long of a removed one", api.Request{Kind: api.OpSetAttr, Attr: api.Attr{Name: longName + "n"}}, api.ErrName},
		{"a value that is too long", api.Request{Kind: api.OpSetAttr, Attr: api.Attr{Name: "k", Value: longValue + "v"}}, api.ErrTooLarge},
		{"a wrong name and value", api.Request{Kind: api.OpSetAttr, Attr: api.Attr{Name: "k l", Value: longValue + "v"}}, api.ErrName},
	}
	for _, c := range cases {
		c.request.Path = "/f"
		checkForm(t, c.about, c.request, c.code)
	}
}

// formFlaw is an error that a request is given.
type formFlaw struct {
	about string
	field string // the flaw is for kinds that use it, or for all if it is empty
	code  int
	spoil func(r *api.Request)
}

// formFlaws are errors in the order of R5.1. Those in one row of it, or of one
// field, cannot be told apart or do not go together.
var formFlaws = [][]formFlaw{
	{{"an unknown kind", "", api.ErrKind, func(r *api.Request) { r.Kind = -r.Kind }}},
	{
		{"a user that is too large", "", api.ErrRange, func(r *api.Request) { r.User = api.MaxUser + 1 }},
		{"a negative user", "", api.ErrRange, func(r *api.Request) { r.User = -1 }},
	},
	{{"an unused field", "", api.ErrMalformed, setUnused}},
	{
		{"a wrong path", "", api.ErrName, func(r *api.Request) { r.Path = "a" }},
		{"no path", "", api.ErrName, func(r *api.Request) { r.Path = "" }},
		{"a wrong target", "Target", api.ErrName, func(r *api.Request) { r.Target = "/a/" }},
	},
	{
		{"a negative offset", "Offset", api.ErrRange, func(r *api.Request) { r.Offset = -1 }},
		{"an offset that is too large", "Offset", api.ErrRange, func(r *api.Request) { r.Offset = api.MaxValue + 1 }},
		{"a negative size", "Size", api.ErrRange, func(r *api.Request) { r.Size = -1 }},
		{"a size that is too large", "Size", api.ErrRange, func(r *api.Request) { r.Size = api.MaxValue + 1 }},
	},
	{{"too many data", "Data", api.ErrTooMany, func(r *api.Request) { r.Data = make([]byte, api.MaxFileBytes+1) }}},
	{
		{"too many entries", "ACL", api.ErrTooMany, func(r *api.Request) { r.ACL = make([]api.ACLEntry, 7) }},
		{"an empty entry", "ACL", api.ErrMalformed, func(r *api.Request) { r.ACL = make([]api.ACLEntry, 1) }},
	},
	{{"a wrong attribute", "Attr", api.ErrName, func(r *api.Request) { r.Attr.Name = "" }}},
	{{"a value that is too long", "Attr", api.ErrTooLarge, func(r *api.Request) { r.Attr.Value = longValue + "v" }}},
}

// setUnused sets one field that the kind of a request does not use.
func setUnused(r *api.Request) {
	if usesField(r.Kind, "Target") {
		r.Data = []byte{0}
		return
	}
	r.Target = "/c"
}

// TestOrderOfForm checks the order of R5.1 with every pair of errors.
func TestOrderOfForm(t *testing.T) {
	pairs := 0
	for _, kind := range kinds {
		for row, flaws := range formFlaws {
			for _, first := range flaws {
				if first.field != "" && !usesField(kind, first.field) {
					continue
				}
				for _, second := range slices.Concat(formFlaws[row+1:]...) {
					if second.field != "" && !usesField(kind, second.field) {
						continue
					}
					r := plain(kind)
					second.spoil(&r)
					first.spoil(&r)
					checkForm(t, fmt.Sprint(first.about, " and ", second.about), r, first.code)
					pairs++
				}
			}
		}
	}
	if pairs < 200 {
		t.Errorf("only %d pairs", pairs)
	}
}
