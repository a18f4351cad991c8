package quota_test

import (
	"fmt"
	"maps"
	"math/rand/v2"
	"slices"
	"strings"
	"testing"

	"farshelf/api"
	"farshelf/fstree"
	"farshelf/memfs"
	"farshelf/quota"
)

// The models follow the definitions of the document in another way than the
// package: they work on paths, and on trees in which a file has another size.

// modelUsage returns the usages of a tree of which only the quotas may be wrong.
func modelUsage(t api.Tree) []int {
	paths := map[string]int{"": 0} // without the slash of the root
	latest := maps.Clone(paths)
	for len(latest) > 0 {
		next := map[string]int{}
		for p, n := range latest {
			for _, e := range t.Inodes[n].Entries {
				next[p+"/"+e.Name] = e.Inode
			}
		}
		maps.Copy(paths, next)
		latest = next
	}
	pairs := map[[2]int]bool{} // an inode, and one that it is or that lies below it
	for p, n := range paths {
		for longer, below := range paths {
			if strings.HasPrefix(longer+"/", p+"/") {
				pairs[[2]int{n, below}] = true
			}
		}
	}
	usages := make([]int, len(t.Inodes))
	for pair := range pairs {
		usages[pair[0]] += len(t.Inodes[pair[1]].Data)
	}
	return usages
}

// resized returns t with another size of inode n.
func resized(t api.Tree, n, size int) api.Tree {
	next := api.Tree{Inodes: slices.Clone(t.Inodes)}
	next.Inodes[n].Data = make([]byte, size)
	return next
}

// modelExceeded returns the result of Exceeded for a valid file and size.
func modelExceeded(t api.Tree, n, size int) []int {
	before, after := modelUsage(t), modelUsage(resized(t, n, size))
	var exceeded []int
	for d, inode := range t.Inodes {
		if inode.Quota != 0 && after[d] > inode.Quota && after[d] > before[d] {
			exceeded = append(exceeded, d)
		}
	}
	return exceeded
}

// modelRemaining returns the result of Remaining for a valid file: it tries the
// sizes until the tree has an error.
func modelRemaining(t api.Tree, n int) int {
	growth := 0
	for fstree.Validate(resized(t, n, len(t.Inodes[n].Data)+growth+1)) == success {
		growth++
	}
	return growth
}

// modelByOwner returns the result of ByOwner for a valid tree.
func modelByOwner(t api.Tree) []int {
	files := map[int]api.Inode{}
	paths, _ := fstree.AllPaths(t)
	for _, p := range paths {
		n, _ := fstree.Lookup(t, p)
		files[n] = t.Inodes[n]
	}
	totals := make([]int, api.MaxUser+1)
	for _, inode := range files {
		totals[inode.Owner] += len(inode.Data)
	}
	return totals
}

// modelFault returns the error of Exceeded, or that of Remaining for a size that
// is valid.
func modelFault(t api.Tree, n, size int) api.Fault {
	if got := fstree.Validate(t); got != success {
		return got
	}
	kinds := map[int]int{}
	for number, inode := range t.Inodes {
		kinds[number] = inode.Kind
	}
	kind, exists := kinds[n]
	if !exists || size != max(0, min(size, api.MaxFileBytes)) {
		return fault(api.ErrRange, -1)
	}
	if kind != api.KindFile {
		return fault(api.ErrWrongType, -1)
	}
	return success
}

// compareTree compares Usage and ByOwner with their models for one tree, and
// reports whether it is valid.
func compareTree(t *testing.T, tested api.Tree) bool {
	t.Helper()
	want := fstree.Validate(tested)
	var wantUsages, wantTotals []int
	if want == success {
		wantUsages, wantTotals = modelUsage(tested), modelByOwner(tested)
	}
	if usages, got := quota.Usage(tested); !slices.Equal(usages, wantUsages) || got != want {
		t.Errorf("Usage(%v) = %v, %v, want %v, %v", tested, usages, got, wantUsages, want)
	}
	if totals, got := quota.ByOwner(tested); !slices.Equal(totals, wantTotals) || got != want {
		t.Errorf("ByOwner(%v) = %v, %v, want %v, %v", tested, totals, got, wantTotals, want)
	}
	return want == success
}

// compareRemaining compares Remaining with its model, and returns its result.
func compareRemaining(t *testing.T, tested api.Tree, n int) int {
	t.Helper()
	want, wantRemaining := modelFault(tested, n, 0), 0
	if want == success {
		wantRemaining = modelRemaining(tested, n)
	}
	if remaining, got := quota.Remaining(tested, n); remaining != wantRemaining || got != want {
		t.Errorf("Remaining(%v, %d) = %d, %v, want %d, %v", tested, n, remaining, got, wantRemaining, want)
	}
	return wantRemaining
}

// compareExceeded compares Exceeded with its model, and returns its result.
func compareExceeded(t *testing.T, tested api.Tree, n, size int) []int {
	t.Helper()
	want := modelFault(tested, n, size)
	var wantExceeded []int
	if want == success {
		wantExceeded = modelExceeded(tested, n, size)
	}
	if exceeded, got := quota.Exceeded(tested, n, size); !slices.Equal(exceeded, wantExceeded) || got != want {
		t.Errorf("Exceeded(%v, %d, %d) = %v, %v, want %v, %v", tested, n, size, exceeded, got, wantExceeded, want)
	}
	return wantExceeded
}

// critical are inodes of all kinds: free ones, files of some sizes, and
// directories with some quotas and at most two entries for the given inodes.
func critical(numbers ...int) []api.Inode {
	inodes := []api.Inode{{}, file(0), file(1), owned(7, file(3))}
	for _, limit := range []int{0, 1, 4} {
		inodes = append(inodes, dir(limit))
		for _, first := range numbers {
			inodes = append(inodes, dir(limit, "b", first))
			for _, second := range numbers {
				inodes = append(inodes, dir(limit, "a", first, "b", second))
			}
		}
	}
	return inodes
}

// TestSmallTrees compares small trees of critical inodes with the models.
func TestSmallTrees(t *testing.T) {
	exceeding, remaining := map[int]int{}, map[int]int{}
	for _, first := range critical(1, 2, 3) {
		for _, second := range critical(2, 3) {
			for _, third := range critical(1, 3) {
				for _, fourth := range []api.Inode{file(1), owned(5, file(2)), {}} {
					tested := tree(first, second, third, fourth)
					compareExceeded(t, tested, 3, 2)
					if !compareTree(t, tested) {
						compareRemaining(t, tested, 3)
						continue
					}
					for n := -1; n <= 4; n++ {
						remaining[compareRemaining(t, tested, n)]++
						for _, size := range []int{-1, 0, 1, 2, 4, 5, 200, 201} {
							exceeding[len(compareExceeded(t, tested, n, size))]++
						}
					}
				}
			}
		}
	}
	if exceeding[0] < 1000 || exceeding[1] < 1000 || exceeding[2] < 1000 || exceeding[3] < 100 {
		t.Errorf("too few calls by the directories that are exceeded: %v", exceeding)
	}
	for _, n := range []int{0, 1, 2, 3, 4, 197, 198, 199, 200} {
		if remaining[n] < 5 {
			t.Errorf("too few calls by the bytes that remain: %v", remaining)
			break
		}
	}
}

// pick returns an inode of a kind by chance, or the root if there is none.
func pick(source *rand.Rand, t api.Tree, kind int) int {
	var found []int
	for n, inode := range t.Inodes {
		if inode.Kind == kind {
			found = append(found, n)
		}
	}
	if len(found) == 0 {
		return 0
	}
	return found[source.IntN(len(found))]
}

// grownTree returns a valid tree of directories and of files, some of them with
// several names, that grew by chance; some inodes are free, and most quotas are
// close to the usages.
func grownTree(source *rand.Rand) api.Tree {
	t := tree(dir(0))
	largest := []int{4, 20, api.MaxFileBytes}[source.IntN(3)]
	for range 8 + source.IntN(24) {
		next := cloneTree(t)
		d := &next.Inodes[pick(source, t, api.KindDir)]
		number := len(t.Inodes)
		d.Entries = append(d.Entries, api.DirEntry{Name: fmt.Sprintf("e%02d", len(d.Entries)), Inode: number})
		switch source.IntN(8) {
		case 0:
			next = cloneTree(t)
			next.Inodes = append(next.Inodes, api.Inode{})
		case 1, 2:
			next.Inodes = append(next.Inodes, owned(source.IntN(8), file(source.IntN(largest+1))))
		case 3, 4:
			next.Inodes = append(next.Inodes, owned(source.IntN(8), dir(0)))
		default:
			d.Entries[len(d.Entries)-1].Inode = pick(source, t, api.KindFile)
		}
		// A wrong step, such as another name for the root, is left out.
		if fstree.Validate(next) == success {
			t = next
		}
	}
	return shuffled(source, limited(source, t))
}

// limited returns t with quotas of most directories.
func limited(source *rand.Rand, t api.Tree) api.Tree {
	usages := modelUsage(t)
	for n := range t.Inodes {
		if t.Inodes[n].Kind == api.KindDir && source.IntN(4) > 0 {
			t.Inodes[n].Quota = usages[n] + source.IntN(8)
		}
	}
	return t
}

// shuffled returns t with other numbers for its inodes, but for the root.
func shuffled(source *rand.Rand, t api.Tree) api.Tree {
	numbers := []int{0}
	for _, n := range source.Perm(len(t.Inodes) - 1) {
		numbers = append(numbers, n+1)
	}
	next := api.Tree{Inodes: make([]api.Inode, len(t.Inodes))}
	for n, inode := range cloneTree(t).Inodes {
		for i := range inode.Entries {
			inode.Entries[i].Inode = numbers[inode.Entries[i].Inode]
		}
		next.Inodes[numbers[n]] = inode
	}
	return next
}

// disturb gives a tree an error, or just changes it.
func disturb(t api.Tree, source *rand.Rand) {
	inode := &t.Inodes[source.IntN(len(t.Inodes))]
	switch source.IntN(6) {
	case 0:
		inode.Kind = source.IntN(5) - 1
	case 1:
		inode.Owner = source.IntN(11) - 2
	case 2:
		inode.Data = make([]byte, source.IntN(203))
	case 3:
		inode.Quota = source.IntN(9) - 1
	default:
		if len(inode.Entries) > 0 {
			inode.Entries[source.IntN(len(inode.Entries))].Inode = source.IntN(len(t.Inodes)+2) - 1
		}
	}
}

// grownTrees returns larger trees, the same ones in each run; most of them are
// invalid if disturbed is true.
func grownTrees(n int, disturbed bool) []api.Tree {
	source := rand.New(rand.NewPCG(8, 1))
	trees := make([]api.Tree, n)
	for i := range trees {
		trees[i] = grownTree(source)
		if disturbed {
			for range 1 + source.IntN(3) {
				disturb(trees[i], source)
			}
		}
	}
	return trees
}

// criticalSizes returns sizes of a file at which the result of Exceeded may
// change.
func criticalSizes(t api.Tree, n int) []int {
	present, usages := len(t.Inodes[n].Data), modelUsage(t)
	sizes := []int{0, present, api.MaxFileBytes}
	for d, inode := range t.Inodes {
		if inode.Quota != 0 {
			sizes = append(sizes, present+inode.Quota-usages[d], present+inode.Quota-usages[d]+1)
		}
	}
	slices.Sort(sizes)
	return slices.Compact(sizes)
}

// TestGrownTrees compares larger trees with the models.
func TestGrownTrees(t *testing.T) {
	source := rand.New(rand.NewPCG(8, 2))
	exceeding, remaining := map[int]int{}, map[int]int{}
	for _, tested := range grownTrees(2000, false) {
		if !compareTree(t, tested) {
			t.Errorf("%v is not valid", tested)
		}
		n := pick(source, tested, api.KindFile)
		remaining[min(compareRemaining(t, tested, n), 8)]++
		for _, size := range criticalSizes(tested, n) {
			exceeding[min(len(compareExceeded(t, tested, n, size)), 5)]++
		}
	}
	for n := range 9 {
		if remaining[n] < 20 || n < 6 && exceeding[n] < 100 {
			t.Errorf("too few calls with %d: %v, %v", n, remaining, exceeding)
		}
	}
}

// TestDisturbedTrees compares larger trees, most of them invalid, with the
// models.
func TestDisturbedTrees(t *testing.T) {
	codes := map[int]int{}
	for i, tested := range grownTrees(3000, true) {
		compareTree(t, tested)
		n := i%(len(tested.Inodes)+2) - 1
		compareRemaining(t, tested, n)
		compareExceeded(t, tested, n, i%(api.MaxFileBytes+5)-2)
		codes[fstree.Validate(tested).Code]++
	}
	for _, code := range []int{api.OK, api.ErrKind, api.ErrMalformed, api.ErrRange, api.ErrState, api.ErrNoSpace} {
		if codes[code] < 50 {
			t.Errorf("only %d trees have the code %d", codes[code], code)
		}
	}
}

// TestFixtureTrees compares the trees of the tables with the models.
func TestFixtureTrees(t *testing.T) {
	for _, tested := range fixtures() {
		compareTree(t, tested)
		n := len(tested.Inodes) - 1
		compareRemaining(t, tested, n)
		for _, size := range []int{0, len(tested.Inodes[n].Data) + 1, 50} {
			compareExceeded(t, tested, n, size)
		}
	}
}

// TestTotals checks what R8.1 and R8.4 say of each other: all bytes are those of
// the root, and those of all users.
func TestTotals(t *testing.T) {
	for _, tested := range append(grownTrees(300, false), fixtures()...) {
		usages, _ := quota.Usage(tested)
		totals, _ := quota.ByOwner(tested)
		sum := 0
		for _, total := range totals {
			sum += total
		}
		if sum != usages[0] {
			t.Errorf("%v: the usage %d, but %v", tested, usages[0], totals)
		}
	}
}

// TestExceededAndRemaining checks what R8.2 and R8.3 say of each other: the
// largest size at which no directory is exceeded is that to which a file can
// grow.
func TestExceededAndRemaining(t *testing.T) {
	for _, tested := range append(grownTrees(300, false), fixtures()...) {
		for n, inode := range tested.Inodes {
			if inode.Kind != api.KindFile {
				continue
			}
			remaining, _ := quota.Remaining(tested, n)
			for size := range api.MaxFileBytes + 1 {
				exceeded, _ := quota.Exceeded(tested, n, size)
				if fits := size <= len(inode.Data)+remaining; fits != (len(exceeded) == 0) {
					t.Errorf("%v, %d: %d bytes remain, but %v at %d", tested, n, remaining, exceeded, size)
				}
			}
		}
	}
}

// codeOf returns the code with which the superuser's request ends.
func codeOf(t *testing.T, tested api.Tree, r api.Request) int {
	t.Helper()
	_, reply, got := memfs.Apply(tested, r)
	if got != success {
		t.Fatalf("Apply(%v, %v): %v", tested, r, got)
	}
	return reply.Code
}

// TestWrites checks that R8.2 and R8.3 agree with what the memory file system
// does when a file changes its size, and R8.1 with the smallest quota that it
// accepts.
func TestWrites(t *testing.T) {
	for _, tested := range append(grownTrees(400, false), nested(), reversed(), beside(), above(), full()) {
		usages, _ := quota.Usage(tested)
		for n, inode := range tested.Inodes {
			paths, _ := fstree.PathsOf(tested, n)
			if inode.Kind == api.KindFile {
				checkWrites(t, tested, n, paths[len(paths)-1])
			}
			if inode.Kind == api.KindDir && usages[n] > 1 {
				for size, want := range map[int]int{usages[n]: api.OK, usages[n] - 1: api.ErrNoSpace} {
					r := api.Request{Kind: api.OpSetQuota, Path: paths[0], Size: size}
					if code := codeOf(t, tested, r); code != want {
						t.Errorf("%v: the usage %d, but the code %d for the quota %d", tested, usages[n], code, size)
					}
				}
			}
		}
	}
}

// checkWrites checks the requests that change the size of file n, one of whose
// paths is p.
func checkWrites(t *testing.T, tested api.Tree, n int, p string) {
	t.Helper()
	present := len(tested.Inodes[n].Data)
	for _, size := range []int{0, present, present + 1, present + 3, api.MaxFileBytes} {
		exceeded, got := quota.Exceeded(tested, n, size)
		code := codeOf(t, tested, api.Request{Kind: api.OpTruncate, Path: p, Size: size})
		if got == success && (code == api.OK) != (len(exceeded) == 0) {
			t.Errorf("%v, %s: Exceeded = %v for %d, but the code %d", tested, p, exceeded, size, code)
		}
	}
	remaining, _ := quota.Remaining(tested, n)
	if code := codeOf(t, tested, api.Request{Kind: api.OpWrite, Path: p, Offset: present, Data: make([]byte, remaining)}); code != api.OK {
		t.Errorf("%v, %s: %d bytes remain, but the code %d", tested, p, remaining, code)
	}
	want := api.ErrNoSpace
	if present+remaining == api.MaxFileBytes {
		want = api.ErrTooLarge
	}
	if code := codeOf(t, tested, api.Request{Kind: api.OpTruncate, Path: p, Size: present + remaining + 1}); code != want {
		t.Errorf("%v, %s: %d bytes remain, but the code %d for one more", tested, p, remaining, code)
	}
}
