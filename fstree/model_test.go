package fstree_test

import (
	"fmt"
	"maps"
	"math/rand/v2"
	"regexp"
	"slices"
	"strings"
	"testing"

	"farshelf/acl"
	"farshelf/api"
	"farshelf/fstree"
	"farshelf/path"
	"farshelf/xattr"
)

// The models follow the definitions of the document in another way than the
// package: they work on a map from paths to inodes.

var namePattern = regexp.MustCompile(`\A[A-Za-z0-9._-]{1,12}\z`)

func modelIsName(name string) bool {
	return namePattern.MatchString(name) && name != "." && name != ".."
}

// rule is an error and whether it applies.
type rule struct {
	applies bool
	code    int
}

// firstOf returns the code of the first rule that applies.
func firstOf(rules ...rule) int {
	for _, r := range rules {
		if r.applies {
			return r.code
		}
	}
	return api.OK
}

func modelInode(t api.Tree, inode api.Inode) int {
	if inode.Kind == 0 {
		// %v shows nil and empty lists alike.
		return firstOf(rule{fmt.Sprint(inode) != fmt.Sprint(api.Inode{}), api.ErrMalformed})
	}
	isDir, isFile := inode.Kind == 1, inode.Kind == 2
	aclCode, attrsCode := acl.Validate(inode.ACL).Code, xattr.Validate(inode.Attrs).Code
	return firstOf(
		rule{!isDir && !isFile, api.ErrKind},
		rule{inode.Owner < 0 || inode.Owner > 7, api.ErrRange},
		rule{inode.Version < 0 || inode.Version > 1000000, api.ErrRange},
		rule{inode.Quota < 0 || inode.Quota > 100000, api.ErrRange},
		rule{isDir && len(inode.Data) > 0, api.ErrMalformed},
		rule{isFile && len(inode.Entries) > 0, api.ErrMalformed},
		rule{isFile && inode.Quota > 0, api.ErrMalformed},
		rule{len(inode.Data) > 200, api.ErrTooLarge},
		rule{aclCode != api.OK, aclCode},
		rule{attrsCode != api.OK, attrsCode},
		rule{len(inode.Entries) > 16, api.ErrTooMany},
		modelEntries(t, inode.Entries),
	)
}

func modelEntries(t api.Tree, entries []api.DirEntry) rule {
	for i, e := range entries {
		exists := e.Inode > 0 && e.Inode < len(t.Inodes)
		code := firstOf(
			rule{!modelIsName(e.Name), api.ErrName},
			rule{i > 0 && entries[max(i-1, 0)].Name >= e.Name, api.ErrMalformed},
			rule{!exists, api.ErrRange},
			rule{exists && t.Inodes[max(0, min(e.Inode, len(t.Inodes)-1))].Kind == 0, api.ErrRange},
		)
		if code != api.OK {
			return rule{true, code}
		}
	}
	return rule{}
}

// modelReferences returns the code for an inode with a wrong number of entries.
func modelReferences(t api.Tree, n int) int {
	references := 0
	for _, inode := range t.Inodes {
		for _, e := range inode.Entries {
			if e.Inode == n {
				references++
			}
		}
	}
	kind := t.Inodes[n].Kind
	return firstOf(rule{n > 0 && kind == 1 && references != 1 || kind == 2 && references < 1, api.ErrState})
}

// modelPaths returns the inodes of all paths of a tree in which each directory
// but the root has one entry. The root's path is "" here.
func modelPaths(t api.Tree) map[string]int {
	paths := map[string]int{}
	latest := map[string]int{"": 0}
	for len(latest) > 0 {
		maps.Copy(paths, latest)
		next := map[string]int{}
		for p, n := range latest {
			for _, e := range t.Inodes[n].Entries {
				next[p+"/"+e.Name] = e.Inode
			}
		}
		latest = next
	}
	return paths
}

// modelPath returns the code for an inode without a path or with too long one.
func modelPath(t api.Tree, paths map[string]int, n int) int {
	reached, tooLong := n == 0 || t.Inodes[n].Kind == 0, false
	for p, reachedInode := range paths {
		if reachedInode == n {
			reached = true
			tooLong = tooLong || len(p) > 100 || strings.Count(p, "/") > 8
		}
	}
	return firstOf(rule{!reached, api.ErrState}, rule{tooLong, api.ErrTooLarge})
}

// modelQuota returns the code for a directory that exceeds its quota.
func modelQuota(t api.Tree, paths map[string]int, n int) int {
	files := map[int]int{}
	for own, ownInode := range paths {
		for p, file := range paths {
			if ownInode == n && strings.HasPrefix(p, own+"/") {
				files[file] = len(t.Inodes[file].Data)
			}
		}
	}
	total := 0
	for _, size := range files {
		total += size
	}
	return firstOf(rule{t.Inodes[n].Quota > 0 && total > t.Inodes[n].Quota, api.ErrNoSpace})
}

func modelValidate(t api.Tree) api.Fault {
	switch {
	case len(t.Inodes) == 0:
		return noInodes
	case len(t.Inodes) > 40:
		return tooMany
	case t.Inodes[0].Kind != 1:
		return noRoot
	}
	var paths map[string]int
	for step := range 4 {
		if step == 2 {
			paths = modelPaths(t)
		}
		for n, inode := range t.Inodes {
			code := api.OK
			switch step {
			case 0:
				code = modelInode(t, inode)
			case 1:
				code = modelReferences(t, n)
			case 2:
				code = modelPath(t, paths, n)
			case 3:
				code = modelQuota(t, paths, n)
			}
			if code != api.OK {
				return fault(code, n)
			}
		}
	}
	return success
}

func modelLookup(t api.Tree, p string) (int, api.Fault) {
	if got := modelValidate(t); got != success {
		return 0, got
	}
	components, split := path.Split(p)
	if split != success {
		return 0, fault(split.Code, -1-split.Index)
	}
	paths := modelPaths(t)
	for i := range components {
		parent := "/" + strings.Join(components[:i], "/")
		if t.Inodes[paths[strings.TrimSuffix(parent, "/")]].Kind == 2 {
			return 0, fault(api.ErrWrongType, i)
		}
		if _, found := paths["/"+strings.Join(components[:i+1], "/")]; !found {
			return 0, fault(api.ErrNotFound, i)
		}
	}
	return paths[strings.TrimSuffix(p, "/")], success
}

// modelPathsOf returns the sorted paths of an inode, or of all if n is -1.
func modelPathsOf(t api.Tree, n int) []string {
	var found []string
	for p, reached := range modelPaths(t) {
		if reached == n || n == -1 {
			found = append(found, p)
		}
	}
	slices.Sort(found)
	if len(found) > 0 && found[0] == "" {
		found[0] = "/"
	}
	return found
}

// compare compares all functions with the models for one tree.
func compare(t *testing.T, tested api.Tree) {
	t.Helper()
	want := modelValidate(tested)
	if got := fstree.Validate(tested); got != want {
		t.Errorf("Validate(%v) = %v, want %v", tested, got, want)
	}
	for _, p := range []string{"/", "/a", "/b", "/a/a", "/a/b/a", "/b/a/x", "/c/b", "a", "/a/"} {
		wantInode, wantFault := modelLookup(tested, p)
		if n, got := fstree.Lookup(tested, p); n != wantInode || got != wantFault {
			t.Errorf("Lookup(%v, %q) = %d, %v, want %d, %v", tested, p, n, got, wantInode, wantFault)
		}
	}
	comparePaths(t, tested, want)
}

// comparePaths compares the functions that return paths with the models.
func comparePaths(t *testing.T, tested api.Tree, want api.Fault) {
	t.Helper()
	for n := -1; n <= len(tested.Inodes); n++ {
		wantFault := want
		var wantPaths []string
		if want == success && (n < 0 || n == len(tested.Inodes) || tested.Inodes[n].Kind == 0) {
			wantFault = noInode
		}
		if wantFault == success {
			wantPaths = modelPathsOf(tested, n)
		}
		if paths, got := fstree.PathsOf(tested, n); !slices.Equal(paths, wantPaths) || got != wantFault {
			t.Errorf("PathsOf(%v, %d) = %q, %v, want %q, %v", tested, n, paths, got, wantPaths, wantFault)
		}
	}
	var wantAll []string
	if want == success {
		wantAll = modelPathsOf(tested, -1)
	}
	if paths, got := fstree.AllPaths(tested); !slices.Equal(paths, wantAll) || got != want {
		t.Errorf("AllPaths(%v) = %q, %v, want %q, %v", tested, paths, got, wantAll, want)
	}
}

// critical are inodes of all kinds: directories with at most two entries for
// the given inodes, files and free inodes.
func critical(numbers ...int) []api.Inode {
	inodes := []api.Inode{dir(), file(1), {}}
	for _, first := range numbers {
		inodes = append(inodes, dir("a", first), limited(1, dir("b", first)))
		for _, second := range numbers {
			inodes = append(inodes, dir("a", first, "b", second))
		}
	}
	return inodes
}

// TestSmallTrees compares all trees of three critical inodes with the models,
// whatever their entries refer to, and of four whose entries refer to inodes
// that exist.
func TestSmallTrees(t *testing.T) {
	valid := 0
	check := func(inodes ...api.Inode) {
		tested := tree(inodes...)
		compare(t, tested)
		if fstree.Validate(tested) == success {
			valid++
		}
	}
	for _, first := range critical(0, 1, 2, 3) {
		for _, second := range critical(0, 1, 2) {
			for _, third := range critical(-1, 1, 2) {
				check(first, second, third)
			}
		}
	}
	for _, first := range critical(1, 2, 3) {
		for _, second := range critical(2, 3) {
			for _, third := range critical(1, 3) {
				for _, fourth := range critical(1, 2) {
					check(first, second, third, fourth)
				}
			}
		}
	}
	if valid < 100 {
		t.Errorf("only %d trees are valid", valid)
	}
}

// nextNames are names for the entries of random trees.
var nextNames = []string{"-", ".x", "0", "B", "_", "a", "a-", "a.", "a0", "b", "nnnnnnnnnnn", longName}

// add gives directory n an entry for inode m, if there is room for one.
func add(t api.Tree, source *rand.Rand, n, m int) {
	d := &t.Inodes[n]
	name := nextNames[source.IntN(len(nextNames))]
	position, found := slices.BinarySearchFunc(d.Entries, name, func(e api.DirEntry, name string) int { return strings.Compare(e.Name, name) })
	if d.Kind == api.KindDir && !found {
		d.Entries = slices.Insert(d.Entries, position, api.DirEntry{Name: name, Inode: m})
	}
}

// disturb gives a tree an error, or just changes it.
func disturb(t api.Tree, source *rand.Rand) {
	inode := &t.Inodes[source.IntN(len(t.Inodes))]
	switch source.IntN(8) {
	case 0:
		inode.Kind = source.IntN(5) - 1
	case 1:
		inode.Owner = source.IntN(11) - 2
	case 2:
		inode.Data = make([]byte, source.IntN(203))
	case 3:
		inode.ACL = []api.ACLEntry{{User: source.IntN(11) - 2, Allow: source.IntN(17), Deny: source.IntN(2)}}
	case 4:
		inode.Attrs = []api.Attr{{Name: nextNames[source.IntN(4)], Value: "1"}, {Name: nextNames[source.IntN(4)], Value: "1"}}
	case 5:
		inode.Quota = source.IntN(5) - 1
	default:
		if len(inode.Entries) > 0 {
			e := &inode.Entries[source.IntN(len(inode.Entries))]
			e.Inode = source.IntN(len(t.Inodes))
			if source.IntN(4) == 0 {
				e.Name = nextNames[source.IntN(len(nextNames))]
			}
		}
	}
}

// mixedTree returns a tree that grew by chance, one in four of them deep.
func mixedTree(source *rand.Rand, disturbed bool) api.Tree {
	t := tree(dir())
	deep := source.IntN(4) == 0
	for size := 1 + source.IntN(18); len(t.Inodes) < size; {
		n := len(t.Inodes)
		inode := dir()
		switch source.IntN(4) {
		case 0, 1:
			if !deep || source.IntN(8) == 0 {
				inode = file(source.IntN(4))
			}
		case 2:
			inode.Quota = source.IntN(9)
		}
		t.Inodes = append(t.Inodes, inode)
		if deep {
			add(t, source, n-1, n)
		}
		for range 1 + source.IntN(3) {
			if inode.Kind == api.KindFile || !deep && source.IntN(2) == 0 {
				add(t, source, max(0, n-1-source.IntN(4)*source.IntN(5)), n)
			}
		}
		if !disturbed && modelReferences(t, n) != api.OK {
			remove(t, n)
		}
	}
	if disturbed {
		for range 1 + source.IntN(3) {
			disturb(t, source)
		}
	}
	return t
}

// remove frees inode n and removes its entries.
func remove(t api.Tree, n int) {
	t.Inodes[n] = api.Inode{}
	for i := range t.Inodes {
		t.Inodes[i].Entries = slices.DeleteFunc(t.Inodes[i].Entries, func(e api.DirEntry) bool { return e.Inode == n })
	}
}

// mixedTrees returns larger trees, the same ones in each run; most of them are
// invalid if disturbed is true.
func mixedTrees(n int, disturbed bool) []api.Tree {
	source := rand.New(rand.NewPCG(4, 1))
	trees := make([]api.Tree, n)
	for i := range trees {
		trees[i] = mixedTree(source, disturbed)
	}
	return trees
}

// TestMixedTrees compares larger trees with the models.
func TestMixedTrees(t *testing.T) {
	codes := map[int]int{}
	for _, tested := range append(mixedTrees(4000, false), mixedTrees(8000, true)...) {
		compare(t, tested)
		codes[fstree.Validate(tested).Code]++
	}
	for _, code := range []int{api.OK, api.ErrKind, api.ErrMalformed, api.ErrRange, api.ErrTooLarge, api.ErrState, api.ErrNoSpace} {
		if codes[code] < 20 {
			t.Errorf("only %d trees have the code %d", codes[code], code)
		}
	}
}

// TestLookupOfPaths checks what R4.2 to R4.4 say of each other: each path of an
// inode leads to it, and all paths are those of all inodes.
func TestLookupOfPaths(t *testing.T) {
	for _, tested := range append(mixedTrees(2000, false), small(), flat(api.MaxInodes)) {
		var whole []string
		for n, inode := range tested.Inodes {
			paths, got := fstree.PathsOf(tested, n)
			if got != success && inode.Kind != 0 && fstree.Validate(tested) == success {
				t.Errorf("PathsOf(%v, %d) = %v", tested, n, got)
			}
			for _, p := range paths {
				if reached, got := fstree.Lookup(tested, p); reached != n || got != success {
					t.Errorf("Lookup(%v, %q) = %d, %v, want %d", tested, p, reached, got, n)
				}
			}
			whole = append(whole, paths...)
		}
		slices.Sort(whole)
		if all, _ := fstree.AllPaths(tested); !slices.Equal(all, whole) {
			t.Errorf("AllPaths(%v) = %q, want %q", tested, all, whole)
		}
	}
}
