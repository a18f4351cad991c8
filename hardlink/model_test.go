package hardlink_test

import (
	"fmt"
	"maps"
	"math/rand/v2"
	"slices"
	"strings"
	"testing"

	"farshelf/api"
	"farshelf/fstree"
	"farshelf/hardlink"
	"farshelf/memfs"
)

// The models follow the definitions of the document in another way than the
// package: they work on a map from paths to inodes, and count the paths.

// modelPaths returns the inodes of all paths of a valid tree.
func modelPaths(t api.Tree) map[string]int {
	paths := map[string]int{"/": 0}
	latest := map[string]int{"": 0}
	for len(latest) > 0 {
		next := map[string]int{}
		for p, n := range latest {
			for _, e := range t.Inodes[n].Entries {
				next[p+"/"+e.Name] = e.Inode
			}
		}
		maps.Copy(paths, next)
		latest = next
	}
	return paths
}

func modelCounts(t api.Tree) ([]int, api.Fault) {
	if got := fstree.Validate(t); got != success {
		return nil, got
	}
	counts := make([]int, len(t.Inodes))
	for p, n := range modelPaths(t) {
		if p != "/" {
			counts[n]++
		}
	}
	return counts, success
}

func modelSameFile(t api.Tree, a, b string) (bool, api.Fault) {
	for _, p := range []string{a, b} {
		if _, got := fstree.Lookup(t, p); got != success {
			return false, got
		}
	}
	paths := modelPaths(t)
	return paths[a] == paths[b], success
}

func modelGroups(t api.Tree) ([][]string, api.Fault) {
	if got := fstree.Validate(t); got != success {
		return nil, got
	}
	paths := modelPaths(t)
	var groups [][]string
	grouped := map[int]bool{}
	sorted := slices.Sorted(maps.Keys(paths))
	for i, first := range sorted {
		n := paths[first]
		if grouped[n] {
			continue
		}
		grouped[n] = true
		group := []string{first}
		for _, p := range sorted[i+1:] {
			if paths[p] == n {
				group = append(group, p)
			}
		}
		if len(group) > 1 {
			groups = append(groups, group)
		}
	}
	return groups, success
}

// compare compares all functions with the models for one tree, and returns the
// number of groups.
func compare(t *testing.T, tested api.Tree, paths ...string) int {
	t.Helper()
	wantCounts, want := modelCounts(tested)
	if counts, got := hardlink.Counts(tested); !slices.Equal(counts, wantCounts) || got != want {
		t.Errorf("Counts(%v) = %v, %v, want %v, %v", tested, counts, got, wantCounts, want)
	}
	wantGroups, want := modelGroups(tested)
	if groups, got := hardlink.Groups(tested); !slices.EqualFunc(groups, wantGroups, slices.Equal) || got != want {
		t.Errorf("Groups(%v) = %q, %v, want %q, %v", tested, groups, got, wantGroups, want)
	}
	for _, a := range paths {
		for _, b := range paths {
			wantSame, want := modelSameFile(tested, a, b)
			if ok, got := hardlink.SameFile(tested, a, b); ok != wantSame || got != want {
				t.Errorf("SameFile(%v, %q, %q) = %v, %v, want %v, %v", tested, a, b, ok, got, wantSame, want)
			}
		}
	}
	return len(wantGroups)
}

// critical are inodes of all kinds: directories with at most three entries for
// the given inodes, a file and a free inode.
func critical(numbers ...int) []api.Inode {
	inodes := []api.Inode{dir(), file(1), {}}
	for _, first := range numbers {
		inodes = append(inodes, dir("b", first))
		for _, second := range numbers {
			inodes = append(inodes, dir("a", first, "b", second))
			for _, third := range numbers {
				inodes = append(inodes, dir("a", first, "b", second, "c", third))
			}
		}
	}
	return inodes
}

// TestSmallTrees compares small trees of critical inodes with the models.
func TestSmallTrees(t *testing.T) {
	groups := map[int]int{}
	check := func(inodes ...api.Inode) {
		tested := tree(inodes...)
		n := compare(t, tested, "/", "/a", "/b/a", "/c", "b")
		if fstree.Validate(tested) == success {
			groups[n]++
		}
	}
	for _, first := range critical(0, 1, 2) {
		for _, second := range critical(0, 1, 2) {
			for _, third := range critical(1, 3) {
				check(first, second, third)
			}
		}
	}
	for _, first := range critical(1, 2, 3) {
		for _, second := range critical(2, 3) {
			for _, third := range []api.Inode{dir(), file(1), {}, dir("a", 3), dir("a", 1, "b", 3)} {
				for _, fourth := range []api.Inode{file(1), {}, dir("a", 1), dir("a", 1, "b", 2)} {
					check(first, second, third, fourth)
				}
			}
		}
	}
	if groups[0] < 100 || groups[1] < 100 || groups[2] < 10 {
		t.Errorf("too few trees by their groups: %v", groups)
	}
}

// names are names for the entries of random trees.
var names = []string{"a", "b", "c", "ab", "ba", "aa", "a-", "a.b", "-", "A", "...", "0", longName}

// pick returns an inode of a kind by chance, or the root if there is none.
func pick(source *rand.Rand, t api.Tree, kind int) int {
	var found []int
	for n, inode := range t.Inodes {
		if inode.Kind == kind {
			found = append(found, n)
		}
	}
	if len(found) == 0 {
		return 0
	}
	return found[source.IntN(len(found))]
}

// grownTree returns a valid tree of directories and of files, most of them with
// several names, that grew by chance; some inodes are free.
func grownTree(source *rand.Rand) api.Tree {
	t := tree(dir())
	few := 3 + source.IntN(len(names)-2)
	for range 10 + source.IntN(50) {
		parent := pick(source, t, api.KindDir)
		number := len(t.Inodes)
		next := cloneTree(t)
		switch source.IntN(8) {
		case 0:
			next.Inodes = append(next.Inodes, api.Inode{})
			number = -1 // no entry
		case 1, 2:
			next.Inodes = append(next.Inodes, file(source.IntN(2)))
		case 3:
			next.Inodes = append(next.Inodes, dir())
		default:
			number = pick(source, t, api.KindFile)
		}
		if number >= 0 {
			add(&next, parent, names[source.IntN(few)], number)
		}
		// A wrong step, such as another name for the root, is left out.
		if fstree.Validate(next) == success {
			t = next
		}
	}
	return t
}

// disturb gives a tree an error, or just changes it.
func disturb(t api.Tree, source *rand.Rand) {
	inode := &t.Inodes[source.IntN(len(t.Inodes))]
	switch source.IntN(6) {
	case 0:
		inode.Kind = source.IntN(5) - 1
	case 1:
		inode.Owner = source.IntN(11) - 2
	case 2:
		inode.Data = make([]byte, source.IntN(203))
	case 3:
		inode.Quota = source.IntN(5) - 1
	default:
		if len(inode.Entries) > 0 {
			e := &inode.Entries[source.IntN(len(inode.Entries))]
			e.Inode = source.IntN(len(t.Inodes)+2) - 1
			if source.IntN(4) == 0 {
				e.Name = names[source.IntN(len(names))]
			}
		}
	}
}

// grownTrees returns larger trees, the same ones in each run; most of them are
// invalid if disturbed is true.
func grownTrees(n int, disturbed bool) []api.Tree {
	source := rand.New(rand.NewPCG(7, 1))
	trees := make([]api.Tree, n)
	for i := range trees {
		trees[i] = grownTree(source)
		if disturbed {
			for range 1 + source.IntN(3) {
				disturb(trees[i], source)
			}
		}
	}
	return trees
}

// TestGrownTrees compares larger trees with the models.
func TestGrownTrees(t *testing.T) {
	groups, unordered := map[int]int{}, 0
	for _, tested := range grownTrees(3000, false) {
		groups[min(compare(t, tested, "/", "/a", "/b", "/a/b", "/b/a/c", "/c/c"), 4)]++
		// The order of the lists shows if it is not that of the files' numbers.
		lists, _ := modelGroups(tested)
		paths := modelPaths(tested)
		if !slices.IsSortedFunc(lists, func(a, b []string) int { return paths[a[0]] - paths[b[0]] }) {
			unordered++
		}
	}
	for n := range 5 {
		if groups[n] < 50 {
			t.Errorf("only %d trees have %d groups", groups[n], n)
		}
	}
	if unordered < 500 {
		t.Errorf("only %d trees have groups that are not in the order of the inodes", unordered)
	}
}

// TestDisturbedTrees compares larger trees, most of them invalid, with the
// models.
func TestDisturbedTrees(t *testing.T) {
	codes := map[int]int{}
	for _, tested := range grownTrees(3000, true) {
		compare(t, tested, "/", "/a", "/a/b", "a")
		codes[fstree.Validate(tested).Code]++
	}
	for _, code := range []int{api.OK, api.ErrKind, api.ErrMalformed, api.ErrRange, api.ErrState} {
		if codes[code] < 50 {
			t.Errorf("only %d trees have the code %d", codes[code], code)
		}
	}
}

// TestAgreement checks what R7.1 to R7.3 say of each other: two different paths
// are the same file if they are in one group, each group has as many paths as
// its file has names, and all other inodes have one name or none.
func TestAgreement(t *testing.T) {
	for _, tested := range append(grownTrees(150, false), small(), linked()) {
		counts, _ := hardlink.Counts(tested)
		groups, _ := hardlink.Groups(tested)
		groupOf := map[string]int{}
		for i, group := range groups {
			for _, p := range group {
				groupOf[p] = i + 1
			}
			n, _ := fstree.Lookup(tested, group[0])
			if counts[n] != len(group) {
				t.Errorf("%v: %q, but the count %d", tested, group, counts[n])
			}
			counts[n] = 1
		}
		if slices.Max(counts) > 1 {
			t.Errorf("%v: %v without the groups", tested, counts)
		}
		all, _ := fstree.AllPaths(tested)
		for _, a := range all {
			for _, b := range all {
				want := a == b || groupOf[a] > 0 && groupOf[a] == groupOf[b]
				if ok, got := hardlink.SameFile(tested, a, b); ok != want || got != success {
					t.Errorf("SameFile(%v, %q, %q) = %v, %v", tested, a, b, ok, got)
				}
			}
		}
	}
}

// grownRequests returns requests that add, remove and move names.
func grownRequests(source *rand.Rand) []api.Request {
	kinds := []int{api.OpMkdir, api.OpCreate, api.OpCreate, api.OpLink, api.OpLink, api.OpLink, api.OpLink, api.OpRename, api.OpRemove}
	place := func() string {
		return strings.Repeat("/d", source.IntN(3)) + fmt.Sprintf("/%c", 'a'+source.IntN(5))
	}
	requests := []api.Request{{Kind: api.OpMkdir, Path: "/d"}, {Kind: api.OpMkdir, Path: "/d/d"}}
	for len(requests) < api.MaxRequests {
		r := api.Request{Kind: kinds[source.IntN(len(kinds))], Path: place()}
		if r.Kind == api.OpLink || r.Kind == api.OpRename {
			r.Target = place()
		}
		requests = append(requests, r)
	}
	return requests
}

// TestStatLinks checks that R7.1 agrees with the number of names that the reply
// to OpStat has, in trees that requests made.
func TestStatLinks(t *testing.T) {
	source := rand.New(rand.NewPCG(7, 2))
	several := 0
	for range 300 {
		tested, _, got := memfs.Run(grownRequests(source))
		if got != success {
			t.Fatalf("Run: %v", got)
		}
		counts, _ := hardlink.Counts(tested)
		paths, _ := fstree.AllPaths(tested)
		for _, p := range paths {
			_, reply, _ := memfs.Apply(tested, api.Request{Kind: api.OpStat, Path: p})
			if counts[reply.Stat.Inode] != reply.Stat.Links {
				t.Errorf("%s: the count %d, but %d links", p, counts[reply.Stat.Inode], reply.Stat.Links)
			}
			if reply.Stat.Links > 1 {
				several++
			}
		}
		compare(t, tested)
	}
	if several < 500 {
		t.Errorf("only %d paths are those of files with several names", several)
	}
}
