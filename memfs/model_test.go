package memfs_test

import (
	"maps"
	"math/rand/v2"
	"slices"
	"strings"
	"testing"

	"farshelf/api"
	"farshelf/fstree"
	"farshelf/memfs"
)

// world is a tree in another form: the inodes without their entries, and the
// inode of every path. The root's path is "" here.
type world struct {
	inodes []api.Inode
	names  map[string]int
}

// worldOf returns the world of a valid tree.
func worldOf(t api.Tree) world {
	w := world{slices.Clone(t.Inodes), map[string]int{"": 0}}
	paths := []string{""}
	for len(paths) > 0 {
		p := paths[0]
		paths = paths[1:]
		for _, e := range t.Inodes[w.names[p]].Entries {
			w.names[p+"/"+e.Name] = e.Inode
			paths = append(paths, p+"/"+e.Name)
		}
	}
	for n := range w.inodes {
		w.inodes[n].Entries = nil
	}
	return w
}

// tree returns the tree of a world.
func (w world) tree() api.Tree {
	t := api.Tree{Inodes: slices.Clone(w.inodes)}
	for _, p := range slices.Sorted(maps.Keys(w.names)) {
		if p != "" {
			d := &t.Inodes[w.names[parentOf(p)]]
			d.Entries = append(d.Entries, api.DirEntry{Name: p[strings.LastIndex(p, "/")+1:], Inode: w.names[p]})
		}
	}
	return t
}

func (w world) clone() world { return world{slices.Clone(w.inodes), maps.Clone(w.names)} }

// parentOf returns the path without its last component.
func parentOf(p string) string { return p[:strings.LastIndex(p, "/")] }

// at returns the path's form in the model.
func at(p string) string { return strings.TrimSuffix(p, "/") }

func (w world) exists(p string) bool {
	_, found := w.names[at(p)]
	return found
}

func (w world) kind(p string) int { return w.inodes[w.names[at(p)]].Kind }

// children returns the paths of the entries of a directory.
func (w world) children(p string) []string {
	var found []string
	for child := range w.names {
		if child != "" && parentOf(child) == at(p) {
			found = append(found, child)
		}
	}
	return found
}

// may reports whether a user has a permission on what a path leads to.
func (w world) may(user int, p string, permission int) bool {
	inode := w.inodes[w.names[at(p)]]
	for _, e := range inode.ACL {
		if (e.User == -1 || e.User == user) && (e.Allow|e.Deny)&permission > 0 && user != 0 {
			return e.Allow&permission > 0
		}
	}
	return user == 0 || user == inode.Owner
}

// usage returns the number of bytes that files have which are a path or lie
// below it.
func (w world) usage(p string) int {
	sizes := map[int]int{}
	for other, n := range w.names {
		if other == at(p) || strings.HasPrefix(other, at(p)+"/") {
			sizes[n] = len(w.inodes[n].Data)
		}
	}
	total := 0
	for _, size := range sizes {
		total += size
	}
	return total
}

// exceeds reports whether a change from before exceeds a quota.
func (w world) exceeds(before world) bool {
	usageOf := map[int]int{}
	for p, n := range before.names {
		usageOf[n] = before.usage(p)
	}
	for p, n := range w.names {
		if quota := w.inodes[n].Quota; quota > 0 && w.usage(p) > quota && w.usage(p) > usageOf[n] {
			return true
		}
	}
	return false
}

// tooLarge reports whether a path is too long or too deep.
func (w world) tooLarge() bool {
	for p := range w.names {
		if len(p) > 100 || strings.Count(p, "/") > 8 {
			return true
		}
	}
	return false
}

func (w world) touch(numbers ...int) {
	for _, n := range numbers {
		if w.inodes[n].Version < 1000000 {
			w.inodes[n].Version++
		}
	}
}

// rule is an error and whether it applies.
type rule struct {
	applies func() bool
	code    int
}

// firstOf returns the code of the first rule that applies. The rules behind it
// are not asked: they may make no sense.
func firstOf(rules ...rule) int {
	for _, r := range rules {
		if r.applies() {
			return r.code
		}
	}
	return api.OK
}

// resolving are the rules for resolving a path.
func (w world) resolving(user int, p string) []rule {
	var rules []rule
	if at(p) == "" {
		return nil
	}
	for i, c := range p {
		if c != '/' {
			continue
		}
		upper := p[:i]
		rules = append(rules,
			rule{func() bool { return !w.exists(upper) }, api.ErrNotFound},
			rule{func() bool { return w.kind(upper) == 2 }, api.ErrWrongType},
			rule{func() bool { return !w.may(user, upper, 4) }, api.ErrPermission},
		)
	}
	return rules
}

func (w world) mustExist(r api.Request) []rule {
	return append(w.resolving(r.User, r.Path), rule{func() bool { return !w.exists(r.Path) }, api.ErrNotFound})
}

// mayChange are the rules that a path which must be vacant and one which must
// be removable have in common.
func (w world) mayChange(user int, p string) []rule {
	return append(w.resolving(user, p),
		rule{func() bool { return p == "/" }, api.ErrName},
		rule{func() bool { return !w.may(user, parentOf(p), 2) }, api.ErrPermission},
	)
}

func (w world) mustBeVacant(user int, p string) []rule {
	return append(w.mayChange(user, p), rule{func() bool { return w.exists(p) }, api.ErrExists})
}

func (w world) mustBeRemovable(r api.Request) []rule {
	return append(w.mayChange(r.User, r.Path), rule{func() bool { return !w.exists(r.Path) }, api.ErrNotFound})
}

func (w world) isFull(p string) rule {
	return rule{func() bool { return len(w.children(parentOf(p))) == 16 }, api.ErrTooMany}
}

func (w world) wrongType(r api.Request, kind int) rule {
	return rule{func() bool { return w.kind(r.Path) != kind }, api.ErrWrongType}
}

func (w world) denied(r api.Request, permission int) rule {
	return rule{func() bool { return !w.may(r.User, r.Path, permission) }, api.ErrPermission}
}

// does is the effect of a request, among its rules because some of them are
// about the world after it.
func does(effect func()) rule { return rule{func() bool { effect(); return false }, api.OK} }

// apply returns the reply to a request, whose effect it has on the world. If
// the reply has a code, the world is of no use afterwards.
func (w world) apply(r api.Request) api.Reply {
	n := w.names[at(r.Path)]
	var rules []rule
	switch r.Kind {
	case 1, 2:
		n = slices.IndexFunc(w.inodes, func(inode api.Inode) bool { return inode.Kind == 0 })
		rules = w.creating(r, n)
	case 3:
		rules = append(w.mustExist(r), w.wrongType(r, 2), w.denied(r, 1))
	case 4, 5:
		rules = w.writing(r, n)
	case 6:
		rules = append(w.mustExist(r), w.wrongType(r, 1), w.denied(r, 1))
	case 7:
		rules = w.mustExist(r)
	case 8:
		rules = w.removing(r, n)
	case 9:
		rules = w.renaming(r)
	case 10:
		rules = w.linking(r, n)
	case 12:
		rules = w.settingAttr(r, n)
	default:
		rules = w.administering(r, n)
	}
	if code := firstOf(rules...); code != api.OK {
		return api.Reply{Code: code}
	}
	return w.reply(r, n)
}

func (w world) creating(r api.Request, n int) []rule {
	return append(w.mustBeVacant(r.User, r.Path), w.isFull(r.Path), rule{func() bool { return n < 0 }, api.ErrNoSpace}, does(func() {
		w.inodes[n] = api.Inode{Kind: r.Kind, Owner: r.User}
		w.names[r.Path] = n
		w.touch(w.names[parentOf(r.Path)])
	}))
}

func (w world) writing(r api.Request, n int) []rule {
	before := w.clone()
	old := w.inodes[n].Data
	size := r.Size
	if r.Kind == 4 {
		size = len(old)
		for i := range r.Data {
			size = max(size, r.Offset+i+1)
		}
	}
	return append(w.mustExist(r), w.wrongType(r, 2), w.denied(r, 2), rule{func() bool { return size > 200 }, api.ErrTooLarge}, does(func() {
		data := make([]byte, size)
		for i := range data {
			if i < len(old) {
				data[i] = old[i]
			}
			if r.Kind == 4 && i >= r.Offset && i < r.Offset+len(r.Data) {
				data[i] = r.Data[i-r.Offset]
			}
		}
		w.inodes[n].Data = data
		w.touch(n)
	}), rule{func() bool { return w.exceeds(before) }, api.ErrNoSpace})
}

func (w world) removing(r api.Request, n int) []rule {
	return append(w.mustBeRemovable(r), rule{func() bool { return len(w.children(r.Path)) > 0 }, api.ErrBusy}, does(func() {
		delete(w.names, r.Path)
		w.touch(w.names[parentOf(r.Path)], n)
		if !slices.Contains(slices.Collect(maps.Values(w.names)), n) {
			w.inodes[n] = api.Inode{}
		}
	}))
}

func (w world) renaming(r api.Request) []rule {
	before := w.clone()
	into := func() bool { return strings.HasPrefix(r.Target, r.Path+"/") }
	elsewhere := func() bool { return parentOf(r.Path) != parentOf(r.Target) && w.isFull(r.Target).applies() }
	return slices.Concat(w.mustBeRemovable(r), []rule{{into, api.ErrBusy}}, w.mustBeVacant(r.User, r.Target), []rule{
		{elsewhere, api.ErrTooMany},
		does(func() { w.rename(r.Path, r.Target) }),
		{w.tooLarge, api.ErrTooLarge},
		{func() bool { return w.exceeds(before) }, api.ErrNoSpace},
	})
}

func (w world) linking(r api.Request, n int) []rule {
	before := w.clone()
	return slices.Concat(w.mustExist(r), []rule{w.wrongType(r, 2)}, w.mustBeVacant(r.User, r.Target), []rule{
		w.isFull(r.Target),
		does(func() {
			w.names[r.Target] = n
			w.touch(w.names[parentOf(r.Target)], n)
		}),
		{func() bool { return w.exceeds(before) }, api.ErrNoSpace},
	})
}

func (w world) settingAttr(r api.Request, n int) []rule {
	attrs := map[string]string{}
	for _, a := range append(slices.Clone(w.inodes[n].Attrs), r.Attr) {
		attrs[a.Name] = a.Value
	}
	maps.DeleteFunc(attrs, func(_, value string) bool { return value == "" })
	return append(w.mustExist(r), w.denied(r, 2), rule{func() bool { return len(attrs) > 6 }, api.ErrTooMany}, does(func() {
		w.inodes[n].Attrs = nil
		for _, name := range slices.Sorted(maps.Keys(attrs)) {
			w.inodes[n].Attrs = append(w.inodes[n].Attrs, api.Attr{Name: name, Value: attrs[name]})
		}
		w.touch(n)
	}))
}

// administering are the rules of OpSetACL, OpSetQuota and OpChown.
func (w world) administering(r api.Request, n int) []rule {
	rules := w.mustExist(r)
	if r.Kind == 13 {
		rules = append(rules, w.wrongType(r, 1))
	}
	return append(rules, w.denied(r, 8), rule{func() bool { return r.Kind == 13 && r.Size > 0 && r.Size < w.usage(r.Path) }, api.ErrNoSpace}, does(func() {
		switch r.Kind {
		case 11:
			w.inodes[n].ACL = r.ACL
		case 13:
			w.inodes[n].Quota = r.Size
		case 14:
			w.inodes[n].Owner = r.Size
		}
		w.touch(n)
	}))
}

// rename gives what a path leads to, and everything below it, another path.
func (w world) rename(p, target string) {
	for other, n := range maps.Clone(w.names) {
		if other == p || strings.HasPrefix(other, p+"/") {
			delete(w.names, other)
			w.names[target+other[len(p):]] = n
		}
	}
	w.touch(w.names[parentOf(p)])
	if parentOf(p) != parentOf(target) {
		w.touch(w.names[parentOf(target)])
	}
}

// reply returns the reply to a request about inode n that has succeeded.
func (w world) reply(r api.Request, n int) api.Reply {
	inode := w.inodes[n]
	switch r.Kind {
	case 3:
		var data []byte
		for i, b := range inode.Data {
			if i >= r.Offset && i < r.Offset+r.Size {
				data = append(data, b)
			}
		}
		return api.Reply{Data: data}
	case 6:
		var names []string
		for _, child := range w.children(r.Path) {
			names = append(names, child[strings.LastIndex(child, "/")+1:])
		}
		slices.Sort(names)
		return api.Reply{Names: names}
	case 8:
		return api.Reply{}
	}
	links := 0
	for p, m := range w.names {
		if m == n && p != "" {
			links++
		}
	}
	return stat(n, inode.Kind, inode.Owner, len(inode.Data), links, inode.Version)
}

// modelApply returns what Apply should return for a valid tree and request.
func modelApply(t api.Tree, r api.Request) (api.Tree, api.Reply) {
	w := worldOf(t)
	if (r.Kind == 1 || r.Kind == 2) && len(w.inodes) < 40 {
		w.inodes = append(w.inodes, api.Inode{})
	}
	reply := w.apply(r)
	if reply.Code != api.OK {
		return t, reply
	}
	after := w.tree()
	if last := len(t.Inodes); last < len(after.Inodes) && after.Inodes[last].Kind == 0 {
		after.Inodes = after.Inodes[:last]
	}
	return after, reply
}

// source makes the random requests of a test, the same ones in each run.
type source struct{ *rand.Rand }

func newSource(seed uint64) source { return source{rand.New(rand.NewPCG(5, seed))} }

// oneOf returns one of some values.
func oneOf[T any](s source, values ...T) T { return values[s.IntN(len(values))] }

// name returns a name, one of few so that names meet each other.
func (s source) name() string {
	return oneOf(s, "a", "b", "c", "d", "-", "A", "x", longName, longName[1:])
}

// path returns a path that leads to an inode of a tree, most of the time, or
// that lies beside or below one.
func (s source) path(t api.Tree) string {
	all, _ := fstree.AllPaths(t)
	switch s.IntN(8) {
	case 0:
		return s.target(t)
	case 1:
		return oneOf(s, "/", "/"+s.name()+"/"+s.name(), "/a/b/c/d")
	}
	return oneOf(s, all...)
}

// target returns a path that lies beside or below one of a tree, often a long
// one.
func (s source) target(t api.Tree) string {
	all, _ := fstree.AllPaths(t)
	p := at(oneOf(s, all...))
	if s.IntN(4) == 0 {
		p = at(slices.MaxFunc(all, func(a, b string) int { return len(a) - len(b) }))
	}
	if p != "" && s.IntN(2) == 0 {
		p = parentOf(p)
	}
	p += "/" + s.name()
	if len(p) > 100 || strings.Count(p, "/") > 8 {
		return "/"
	}
	return p
}

// list returns an access control list, most of them empty or short.
func (s source) list() []api.ACLEntry {
	var l []api.ACLEntry
	for range max(0, s.IntN(6)-2) {
		allow := s.IntN(16)
		deny := s.IntN(16) &^ allow
		if allow+deny > 0 {
			l = append(l, api.ACLEntry{User: s.IntN(5) - 1, Allow: allow, Deny: deny})
		}
	}
	return l
}

// request returns a valid request for a tree.
func (s source) request(t api.Tree) api.Request {
	r := api.Request{Kind: oneOf(s, append(kinds, api.OpRename, api.OpRename, api.OpLink)...), User: oneOf(s, 0, 0, 0, 0, 1, 1, 2), Path: s.path(t)}
	if r.Kind == api.OpMkdir || r.Kind == api.OpCreate {
		r.Path = oneOf(s, r.Path, s.target(t))
	}
	if upper := parentOf(r.Path); r.Kind == api.OpRename && upper != "" && s.IntN(2) == 0 {
		r.Path = upper // a directory, as a rule with entries
	}
	fill := map[string]func(){
		"Target": func() { r.Target = oneOf(s, s.path(t), s.target(t), s.target(t), s.target(t), at(r.Path)+"/"+s.name()) },
		"Offset": func() { r.Offset = oneOf(s, 0, s.IntN(5), s.IntN(202), api.MaxValue) },
		"Size":   func() { r.Size = oneOf(s, 0, s.IntN(8), s.IntN(8), 198+s.IntN(5)) },
		"Data":   func() { r.Data = make([]byte, oneOf(s, 0, s.IntN(5), s.IntN(201))) },
		"ACL":    func() { r.ACL = s.list() },
		"Attr":   func() { r.Attr = api.Attr{Name: s.name(), Value: oneOf(s, "", "1", "2")} },
	}
	for _, field := range strings.Fields(uses[r.Kind]) {
		fill[field]()
	}
	for i := range r.Data {
		r.Data[i] = byte(s.IntN(256))
	}
	if r.Kind == api.OpChown {
		r.Size %= 3
	}
	if memfs.ValidateRequest(r) != success {
		r.Target = "/"
	}
	return r
}

// starts are the trees that random requests begin with: near their limits, so
// that requests meet them.
func starts() []api.Tree {
	open := func(t api.Tree) api.Tree {
		return changed(t, 0, func(inode *api.Inode) { inode.ACL = []api.ACLEntry{{User: -1, Allow: rwx}} })
	}
	attrs := changed(home(), 3, func(inode *api.Inode) {
		for _, name := range []string{"l", "m", "n", "o", "p"} {
			inode.Attrs = append(inode.Attrs, api.Attr{Name: name, Value: "v"})
		}
	})
	names := strings.Split(longest[1:], "/")
	met := with(quotas(), 2, file(1, 7))
	even := tree(dir(0, "a", 1, "b", 2, "c", 3, "d", 4), dir(0), dir(1), dir(0), dir(1))
	for n := 5; n < api.MaxInodes; n++ {
		parent := &even.Inodes[1+n%4]
		parent.Entries = append(parent.Entries, api.DirEntry{Name: full[n/4:][:1], Inode: n})
		even.Inodes = append(even.Inodes, file(n%3, n%3))
	}
	return []api.Tree{
		tree(dir(0)), open(tree(dir(1))), home(), closed(), attrs, quotas(), met, even, open(even),
		crowded(), open(crowded()), open(crowded(7)), open(crowded(38, 39)),
		below(dir(0), letters(7)...), open(below(dir(1), letters(6)...)), open(below(dir(1), names[:7]...)),
		open(chain(dir(1), letters(7)...)), open(chain(dir(1), names[:7]...)), open(chain(file(1, 3), "a", "a", "a", "a")),
	}
}

// TestStarts keeps the first trees valid, and checks the model's form of them.
func TestStarts(t *testing.T) {
	for i, start := range starts() {
		if got := fstree.Validate(start); got != success {
			t.Errorf("start %d: Validate = %v", i, got)
		}
		if back := worldOf(start).tree(); show(back) != show(start) {
			t.Errorf("start %d: the model's tree is %+v, want %+v", i, back, start)
		}
	}
}

// equalInodes reports whether two inodes are equal, with nil and empty lists
// alike.
func equalInodes(a, b api.Inode) bool {
	return a.Kind == b.Kind && a.Owner == b.Owner && a.Quota == b.Quota && a.Version == b.Version &&
		slices.Equal(a.Entries, b.Entries) && slices.Equal(a.Data, b.Data) && slices.Equal(a.ACL, b.ACL) && slices.Equal(a.Attrs, b.Attrs)
}

// outcome is a kind of requests and the code of a reply.
type outcome struct{ kind, code int }

// TestModel compares random requests on random trees with the model.
func TestModel(t *testing.T) {
	seen := map[outcome]int{}
	for i, start := range starts() {
		for seed := range 300 {
			s := newSource(uint64(i*1000 + seed))
			current := start
			for range oneOf(s, 3, 3, 3, 3, 3, 40) { // short runs stay near the limits
				r := s.request(current)
				want, wantReply := modelApply(current, r)
				after, reply, got := memfs.Apply(current, r)
				if got != success || !slices.EqualFunc(after.Inodes, want.Inodes, equalInodes) || show(reply) != show(wantReply) {
					t.Fatalf("Apply(%+v, %+v) = %+v, %+v, %v, want %+v, %+v", current, r, after, reply, got, want, wantReply)
				}
				seen[outcome{r.Kind, reply.Code}]++
				current = after
			}
		}
	}
	for kind, codes := range outcomes() {
		for _, code := range append(codes, api.OK, api.ErrNotFound, api.ErrWrongType, api.ErrPermission) {
			if seen[outcome{kind, code}] < 5 {
				t.Errorf("only %d requests of kind %d have code %d", seen[outcome{kind, code}], kind, code)
			}
		}
	}
}

// outcomes are the codes of each kind beside those that all kinds have.
func outcomes() map[int][]int {
	made := []int{api.ErrName, api.ErrExists, api.ErrTooMany, api.ErrNoSpace}
	return map[int][]int{
		api.OpMkdir:    made,
		api.OpCreate:   made,
		api.OpRead:     nil,
		api.OpWrite:    {api.ErrTooLarge, api.ErrNoSpace},
		api.OpTruncate: {api.ErrTooLarge, api.ErrNoSpace},
		api.OpList:     nil,
		api.OpStat:     nil,
		api.OpRemove:   {api.ErrName, api.ErrBusy},
		api.OpRename:   append(made, api.ErrBusy, api.ErrTooLarge),
		api.OpLink:     made,
		api.OpSetACL:   nil,
		api.OpSetAttr:  {api.ErrTooMany},
		api.OpSetQuota: {api.ErrNoSpace},
		api.OpChown:    nil,
	}
}
