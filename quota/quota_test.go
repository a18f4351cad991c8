package quota_test

import (
	"fmt"
	"math"
	"slices"
	"strings"
	"testing"

	"farshelf/api"
	"farshelf/fstree"
	"farshelf/quota"
)

var success = api.Fault{}

func fault(code, index int) api.Fault { return api.Fault{Code: code, Index: index} }

func tree(inodes ...api.Inode) api.Tree { return api.Tree{Inodes: inodes} }

// dir returns a directory with a quota, or without one if it is 0. Its entries
// have the given names, each followed by the number of its inode.
func dir(quota int, texts ...any) api.Inode {
	inode := api.Inode{Kind: api.KindDir, Quota: quota}
	for i := 0; i+1 < len(texts); i += 2 {
		inode.Entries = append(inode.Entries, api.DirEntry{Name: texts[i].(string), Inode: texts[i+1].(int)})
	}
	return inode
}

// file returns a file of n bytes.
func file(n int) api.Inode { return api.Inode{Kind: api.KindFile, Data: make([]byte, n)} }

// owned returns inode with another owner.
func owned(user int, inode api.Inode) api.Inode {
	inode.Owner = user
	return inode
}

// wide returns a directory with a quota whose n entries have the inodes from
// first on.
func wide(quota, n, first int) api.Inode {
	d := dir(quota)
	for i := range n {
		d.Entries = append(d.Entries, api.DirEntry{Name: fmt.Sprintf("e%02d", i), Inode: first + i})
	}
	return d
}

// example returns the tree of the document's examples: /a has a quota of 5 and
// contains only the 3-byte file /a/f.
func example() api.Tree { return tree(dir(0, "a", 1), dir(5, "f", 2), file(3)) }

// nested returns the root 0 with a quota of 30, /a (1) with one of 20, /a/b (2)
// without one and /a/b/c (3) with one of 10, and the files /a/b/c/f (4), /a/g
// (5) and /h (6).
func nested() api.Tree {
	return tree(dir(30, "a", 1, "h", 6), dir(20, "b", 2, "g", 5), dir(0, "c", 3), dir(10, "f", 4), file(5), file(4), file(3))
}

// reversed returns the tree of nested with the numbers of its inodes reversed,
// but for the root.
func reversed() api.Tree {
	return tree(dir(30, "a", 6, "h", 1), file(3), file(4), file(5), dir(10, "f", 3), dir(0, "c", 4), dir(20, "b", 5, "g", 2))
}

// beside returns the directories /a (1) and /b (2) with the quotas 8 and 9; the
// file 3 has names in both, the file 4 only in /a and the file 5 only in /b.
func beside() api.Tree {
	return tree(dir(0, "a", 1, "b", 2), dir(8, "f", 3, "g", 4), dir(9, "f", 3, "h", 5), file(3), file(2), file(4))
}

// above returns the root 0, /a (1) and /a/b (2) with the quotas 9, 7 and 5; the
// file 3 has a name in each of them, and the file 4 one in /a.
func above() api.Tree {
	return tree(dir(9, "a", 1, "f", 3), dir(7, "b", 2, "f", 3, "g", 4), dir(5, "f", 3), file(3), file(2))
}

// full returns a tree with as many bytes as there can be, in 37 files; the root
// and both its directories have them as their quotas.
func full() api.Tree {
	root := dir(37*api.MaxFileBytes, "a", 1, "b", 2)
	root.Entries = append(root.Entries, wide(0, 14, 3).Entries...)
	t := tree(root, wide(16*api.MaxFileBytes, 16, 17), wide(7*api.MaxFileBytes, 7, 33))
	for range 37 {
		t.Inodes = append(t.Inodes, file(api.MaxFileBytes))
	}
	return t
}

// crowded returns a tree of a file with as many names as there can be, in 39
// directories; the root has a quota of 20, and directory n one of 10+n.
func crowded() api.Tree {
	const last = api.MaxInodes - 1
	t := tree(dir(20))
	for n := 1; n < last; n++ {
		d := &t.Inodes[(n-1)/api.MaxDirEntries]
		d.Entries = append(d.Entries, api.DirEntry{Name: fmt.Sprintf("d%02d", n), Inode: n})
		t.Inodes = append(t.Inodes, dir(10+n))
	}
	for n := range last {
		d := &t.Inodes[n]
		for i := 0; len(d.Entries) < api.MaxDirEntries; i++ {
			d.Entries = append(d.Entries, api.DirEntry{Name: fmt.Sprintf("f%02d", i), Inode: last})
		}
	}
	t.Inodes = append(t.Inodes, file(7))
	return t
}

// fixtures are the valid trees above.
func fixtures() []api.Tree {
	return []api.Tree{example(), nested(), reversed(), beside(), above(), full(), crowded()}
}

// TestFixtures checks that these trees are valid.
func TestFixtures(t *testing.T) {
	for i, tested := range fixtures() {
		if got := fstree.Validate(tested); got != success {
			t.Errorf("tree %d: %v", i, got)
		}
	}
	if len(full().Inodes) != api.MaxInodes || len(crowded().Inodes) != api.MaxInodes {
		t.Error("a tree could have more inodes")
	}
}

// TestUsage checks R8.1.
func TestUsage(t *testing.T) {
	free := api.Inode{}
	cases := []struct {
		about string
		tree  api.Tree
		want  []int
	}{
		{"the document's example", tree(dir(0, "d", 1), dir(0, "f", 2, "g", 2), file(3)), []int{3, 3, 3}},
		{"the example of Exceeded", example(), []int{3, 3, 3}},
		{"the root alone", tree(dir(0)), []int{0}},
		{"the root alone with all fields", tree(api.Inode{Kind: api.KindDir, Owner: 7, ACL: []api.ACLEntry{{User: 1, Allow: 1}}, Attrs: []api.Attr{{Name: "k", Value: "v"}}, Quota: 5, Version: 5}), []int{0}},
		{"a file with all fields", tree(dir(0, "f", 1), api.Inode{Kind: api.KindFile, Owner: 7, Data: []byte{1, 0}, ACL: []api.ACLEntry{{User: 1, Allow: 1}}, Attrs: []api.Attr{{Name: "k", Value: "v"}}, Version: 5}), []int{2, 2}},
		{"free inodes at the end", tree(dir(0, "f", 1), file(3), free, free), []int{3, 3, 0, 0}},
		{"free inodes in the middle", tree(dir(0, "f", 3), free, free, file(3)), []int{3, 0, 0, 3}},
		{"free inodes in the middle and at the end", tree(dir(0, "d", 2, "g", 4), free, dir(0, "f", 5), free, file(1), file(2), free), []int{3, 0, 2, 0, 1, 2, 0}},

		{"an empty directory", tree(dir(0, "d", 1), dir(0)), []int{0, 0}},
		{"an empty file", tree(dir(0, "f", 1), file(0)), []int{0, 0}},
		{"a file of a byte", tree(dir(0, "f", 1), file(1)), []int{1, 1}},
		{"a file of MaxFileBytes bytes", tree(dir(0, "f", 1), file(api.MaxFileBytes)), []int{200, 200}},
		{"two files", tree(dir(0, "f", 1, "g", 2), file(3), file(4)), []int{7, 3, 4}},
		{"two files with the same data", tree(dir(0, "f", 1, "g", 2), file(3), file(3)), []int{6, 3, 3}},
		{"a file beside an empty directory", tree(dir(0, "d", 1, "f", 2), dir(0), file(3)), []int{3, 0, 3}},

		{"two names in the root", tree(dir(0, "f", 1, "g", 1), file(3)), []int{3, 3}},
		{"three names and another file", tree(dir(0, "f", 1, "g", 1, "h", 2, "i", 1), file(3), file(4)), []int{7, 3, 4}},
		{"names side by side", beside(), []int{9, 5, 7, 3, 2, 4}},
		{"names side by side, at different depths", tree(dir(0, "a", 1, "b", 3), dir(0, "c", 2), dir(0, "f", 4), dir(0, "f", 4), file(3)), []int{3, 3, 3, 3, 3}},
		{"names one above the other", above(), []int{5, 5, 3, 3, 2}},
		{"names one far above the other", tree(dir(0, "a", 1, "f", 3), dir(0, "b", 2), dir(0, "f", 3), file(3)), []int{3, 3, 3, 3}},
		{"names in all directories but one", tree(dir(0, "a", 1, "b", 2, "c", 3, "f", 4), dir(0, "f", 4), dir(0), dir(0, "f", 4), file(3)), []int{3, 3, 0, 3, 3}},

		{"directories in directories", nested(), []int{12, 9, 5, 5, 5, 4, 3}},
		{"directories in directories, with other numbers", reversed(), []int{12, 3, 4, 5, 5, 5, 9}},
		{"directories side by side", tree(dir(0, "a", 1, "b", 2, "c", 3), dir(0, "f", 4), dir(0), dir(0, "f", 5, "g", 6), file(1), file(2), file(4)), []int{7, 1, 0, 6, 1, 2, 4}},
		{"a chain of MaxDepth components", tree(dir(0, "a", 1), dir(0, "a", 2), dir(0, "a", 3), dir(0, "a", 4), dir(0, "a", 5), dir(0, "a", 6), dir(0, "a", 7), dir(0, "a", 8), file(3)), slices.Repeat([]int{3}, 9)},
		{"a usage equal to the quota", tree(dir(3, "d", 1), dir(3, "f", 2), file(3)), []int{3, 3, 3}},
		{"a usage below the quota", tree(dir(api.MaxQuota, "d", 1), dir(4, "f", 2), file(3)), []int{3, 3, 3}},
		{"as many bytes as there can be", full(), slices.Concat([]int{7400, 3200, 1400}, slices.Repeat([]int{200}, 37))},
		{"as many names as there can be", crowded(), slices.Repeat([]int{7}, 40)},
	}
	for _, c := range cases {
		if usages, got := quota.Usage(c.tree); !slices.Equal(usages, c.want) || got != success {
			t.Errorf("%s: Usage = %v, %v, want %v", c.about, usages, got, c.want)
		}
	}
}

// sizes are sizes of a file with the directories that it would make exceed
// their quotas.
type sizes map[int][]int

// TestExceeded checks R8.2.
func TestExceeded(t *testing.T) {
	cases := []struct {
		about string
		tree  api.Tree
		file  int
		want  sizes
	}{
		{"the document's example", example(), 2, sizes{0: nil, 2: nil, 3: nil, 4: nil, 5: nil, 6: {1}, 200: {1}}},
		{"the root's quota", tree(dir(5, "f", 1), file(3)), 1, sizes{0: nil, 3: nil, 5: nil, 6: {0}, 200: {0}}},
		{"no quota", tree(dir(0, "a", 1), dir(0, "f", 2), file(3)), 2, sizes{0: nil, 3: nil, 4: nil, 200: nil}},
		{"the largest quota", tree(dir(api.MaxQuota, "f", 1), file(3)), 1, sizes{0: nil, 3: nil, 200: nil}},
		{"the smallest quota", tree(dir(1, "f", 1), file(0)), 1, sizes{0: nil, 1: nil, 2: {0}}},
		{"the smallest quota, used", tree(dir(1, "f", 1), file(1)), 1, sizes{0: nil, 1: nil, 2: {0}}},
		{"a quota of MaxFileBytes", tree(dir(200, "f", 1), file(0)), 1, sizes{0: nil, 199: nil, 200: nil}},
		{"a quota of MaxFileBytes-1", tree(dir(199, "f", 1), file(0)), 1, sizes{199: nil, 200: {0}}},
		{"a file of MaxFileBytes bytes", tree(dir(200, "f", 1), file(200)), 1, sizes{0: nil, 1: nil, 199: nil, 200: nil}},
		{"another file in the directory", tree(dir(5, "f", 1, "g", 2), file(3), file(1)), 1, sizes{3: nil, 4: nil, 5: {0}}},
		{"a usage equal to the quota", tree(dir(4, "f", 1, "g", 2), file(3), file(1)), 1, sizes{0: nil, 2: nil, 3: nil, 4: {0}}},
		{"an empty file beside it", tree(dir(4, "f", 1, "g", 2), file(4), file(0)), 2, sizes{0: nil, 1: {0}}},

		{"the lowest file", nested(), 4, sizes{0: nil, 4: nil, 5: nil, 6: nil, 10: nil, 11: {3}, 16: {3}, 17: {1, 3}, 23: {1, 3}, 24: {0, 1, 3}, 200: {0, 1, 3}}},
		{"the file in the middle", nested(), 5, sizes{0: nil, 4: nil, 15: nil, 16: {1}, 22: {1}, 23: {0, 1}, 200: {0, 1}}},
		{"the uppermost file", nested(), 6, sizes{0: nil, 3: nil, 21: nil, 22: {0}, 200: {0}}},
		{"the lowest file, with other numbers", reversed(), 3, sizes{5: nil, 10: nil, 11: {4}, 17: {4, 6}, 23: {4, 6}, 24: {0, 4, 6}}},
		{"the file in the middle, with other numbers", reversed(), 2, sizes{4: nil, 15: nil, 16: {6}, 23: {0, 6}}},
		{"the uppermost file, with other numbers", reversed(), 1, sizes{3: nil, 21: nil, 22: {0}}},
		{"the quotas above are tighter", tree(dir(4, "a", 1), dir(5, "b", 2), dir(6, "f", 3), file(3)), 3, sizes{4: nil, 5: {0}, 6: {0, 1}, 7: {0, 1, 2}}},
		{"only the quota of the directory in between", tree(dir(0, "a", 1), dir(5, "b", 2), dir(0, "f", 3), file(3)), 3, sizes{5: nil, 6: {1}, 200: {1}}},
		{"all quotas are used", tree(dir(3, "a", 1), dir(3, "b", 2), dir(3, "f", 3), file(3)), 3, sizes{0: nil, 2: nil, 3: nil, 4: {0, 1, 2}}},

		{"the quota of a directory beside", tree(dir(0, "a", 1, "b", 2), dir(5, "g", 4), dir(0, "f", 3), file(3), file(5)), 3, sizes{0: nil, 3: nil, 200: nil}},
		{"the quota of a directory below", tree(dir(0, "a", 1, "f", 2), dir(1), file(3)), 2, sizes{0: nil, 3: nil, 200: nil}},
		{"a directory beside and one above", tree(dir(9, "a", 1, "b", 2), dir(5, "g", 4), dir(0, "f", 3), file(3), file(5)), 3, sizes{4: nil, 5: {0}}},

		{"two names in one directory", tree(dir(5, "f", 1, "g", 1), file(3)), 1, sizes{0: nil, 3: nil, 5: nil, 6: {0}}},
		{"two names side by side", beside(), 3, sizes{0: nil, 3: nil, 5: nil, 6: {2}, 7: {1, 2}, 200: {1, 2}}},
		{"one of two directories with a common file", beside(), 4, sizes{0: nil, 2: nil, 5: nil, 6: {1}}},
		{"the other one", beside(), 5, sizes{4: nil, 6: nil, 7: {2}}},
		{"names one above the other", above(), 3, sizes{3: nil, 5: nil, 6: {1, 2}, 7: {1, 2}, 8: {0, 1, 2}}},
		{"the file beside one of them", above(), 4, sizes{2: nil, 4: nil, 5: {1}, 6: {1}, 7: {0, 1}}},
		{"a name far above the other", tree(dir(0, "a", 1, "f", 3), dir(4, "b", 2), dir(6, "f", 3), file(3)), 3, sizes{4: nil, 5: {1}, 6: {1}, 7: {1, 2}}},

		{"free inodes beside", tree(dir(5, "f", 2), api.Inode{}, file(3), api.Inode{}), 2, sizes{5: nil, 6: {0}}},
		{"as many bytes as there can be", full(), 39, sizes{0: nil, 199: nil, 200: nil}},
		{"as many names as there can be", crowded(), 39, sizes{7: nil, 11: nil, 12: {1}, 14: {1, 2, 3}, 20: {1, 2, 3, 4, 5, 6, 7, 8, 9}, 21: {0, 1, 2, 3, 4, 5, 6, 7, 8, 9, 10}}},
	}
	for _, c := range cases {
		for size, want := range c.want {
			if exceeded, got := quota.Exceeded(c.tree, c.file, size); !slices.Equal(exceeded, want) || got != success {
				t.Errorf("%s: Exceeded(%d, %d) = %v, %v, want %v", c.about, c.file, size, exceeded, got, want)
			}
		}
	}
}

// TestRemaining checks R8.3.
func TestRemaining(t *testing.T) {
	// Each element of want is the result for the file of that number.
	cases := []struct {
		about string
		tree  api.Tree
		want  map[int]int
	}{
		{"the document's example", example(), map[int]int{2: 2}},
		{"an empty file without a quota", tree(dir(0, "f", 1), file(0)), map[int]int{1: 200}},
		{"a file without a quota", tree(dir(0, "f", 1), file(3)), map[int]int{1: 197}},
		{"a file of MaxFileBytes-1 bytes", tree(dir(0, "f", 1), file(199)), map[int]int{1: 1}},
		{"a file of MaxFileBytes bytes", tree(dir(0, "f", 1), file(200)), map[int]int{1: 0}},
		{"the largest quota", tree(dir(api.MaxQuota, "f", 1), file(3)), map[int]int{1: 197}},
		{"the smallest quota", tree(dir(1, "f", 1), file(0)), map[int]int{1: 1}},
		{"no room at all", tree(dir(1, "f", 1), file(1)), map[int]int{1: 0}},
		{"no room at all, for an empty file", tree(dir(3, "f", 1, "g", 2), file(0), file(3)), map[int]int{1: 0, 2: 0}},
		{"no room in the root", tree(dir(3, "d", 1), dir(9, "f", 2), file(3)), map[int]int{2: 0}},
		{"no room in the nearest directory", tree(dir(9, "d", 1), dir(3, "f", 2), file(3)), map[int]int{2: 0}},
		{"a quota of MaxFileBytes", tree(dir(200, "f", 1), file(3)), map[int]int{1: 197}},
		{"a quota of MaxFileBytes, with another file", tree(dir(200, "f", 1, "g", 2), file(3), file(1)), map[int]int{1: 196, 2: 196}},
		{"MaxFileBytes is as tight as the quota", tree(dir(201, "f", 1, "g", 2), file(3), file(1)), map[int]int{1: 197, 2: 197}},
		{"MaxFileBytes is tighter than the quota", tree(dir(202, "f", 1, "g", 2), file(3), file(1)), map[int]int{1: 197, 2: 198}},

		{"the nearest directory's quota", nested(), map[int]int{4: 5, 5: 11, 6: 18}},
		{"the nearest directory's quota, with other numbers", reversed(), map[int]int{3: 5, 2: 11, 1: 18}},
		{"the root's quota", tree(dir(10, "a", 1, "g", 4), dir(9, "b", 2), dir(8, "f", 3), file(3), file(4)), map[int]int{3: 3, 4: 3}},
		{"the quota of the directory in between", tree(dir(9, "a", 1), dir(5, "b", 2), dir(9, "f", 3), file(3)), map[int]int{3: 2}},
		{"only the directory in between has one", tree(dir(0, "a", 1), dir(5, "b", 2), dir(0, "f", 3), file(3)), map[int]int{3: 2}},
		{"only the directory in between has none", tree(dir(9, "a", 1), dir(0, "b", 2), dir(8, "f", 3), file(3)), map[int]int{3: 5}},
		{"only the directory in between has none, and the root's is tighter", tree(dir(8, "a", 1), dir(0, "b", 2), dir(9, "f", 3), file(3)), map[int]int{3: 5}},
		{"a smaller quota with more room", tree(dir(20, "a", 1, "g", 3), dir(9, "f", 2), file(3), file(16)), map[int]int{2: 1, 3: 1}},

		{"a full directory beside", tree(dir(0, "a", 1, "b", 2), dir(5, "g", 4), dir(0, "f", 3), file(3), file(5)), map[int]int{3: 197, 4: 0}},
		{"a full directory below", tree(dir(9, "a", 1, "g", 3), dir(5, "f", 2), file(5), file(3)), map[int]int{2: 0, 3: 1}},
		{"an empty directory with a quota", tree(dir(0, "a", 1, "f", 2), dir(1), file(3)), map[int]int{2: 197}},

		{"two names in one directory", tree(dir(5, "f", 1, "g", 1), file(3)), map[int]int{1: 2}},
		{"names in two directories with different quotas", tree(dir(0, "a", 1, "b", 2), dir(5, "f", 3), dir(7, "f", 3), file(3)), map[int]int{3: 2}},
		{"names in two directories with different quotas, the other way", tree(dir(0, "a", 1, "b", 2), dir(7, "f", 3), dir(5, "f", 3), file(3)), map[int]int{3: 2}},
		{"names in two directories, only one with a quota", tree(dir(0, "a", 1, "b", 2), dir(0, "f", 3), dir(5, "f", 3), file(3)), map[int]int{3: 2}},
		{"names side by side", beside(), map[int]int{3: 2, 4: 3, 5: 2}},
		{"names one above the other", above(), map[int]int{3: 2, 4: 2}},
		{"a name far above the other", tree(dir(0, "a", 1, "f", 3), dir(4, "b", 2), dir(6, "f", 3), file(3)), map[int]int{3: 1}},

		{"free inodes beside", tree(dir(5, "f", 2), api.Inode{}, file(3), api.Inode{}), map[int]int{2: 2}},
		{"as many bytes as there can be", full(), map[int]int{3: 0, 39: 0}},
		{"as many names as there can be", crowded(), map[int]int{39: 4}},
	}
	for _, c := range cases {
		for n, want := range c.want {
			if remaining, got := quota.Remaining(c.tree, n); remaining != want || got != success {
				t.Errorf("%s: Remaining(%d) = %d, %v, want %d", c.about, n, remaining, got, want)
			}
		}
	}
}

// TestByOwner checks R8.4.
func TestByOwner(t *testing.T) {
	everyone := tree(wide(0, 8, 1))
	for user := range api.MaxUser + 1 {
		everyone.Inodes = append(everyone.Inodes, owned(user, file(10+user)))
	}
	cases := []struct {
		about string
		tree  api.Tree
		want  [api.MaxUser + 1]int
	}{
		{"the document's example", tree(dir(0, "f", 1), owned(2, file(3))), [8]int{2: 3}},
		{"the root alone", tree(dir(0)), [8]int{}},
		{"the root alone, of another user", tree(owned(3, dir(5))), [8]int{}},
		{"free inodes", tree(dir(0), api.Inode{}, api.Inode{}), [8]int{}},
		{"a file of user 0", tree(dir(0, "f", 1), file(3)), [8]int{0: 3}},
		{"a file of user MaxUser", tree(dir(0, "f", 1), owned(api.MaxUser, file(3))), [8]int{7: 3}},
		{"an empty file", tree(dir(0, "f", 1), owned(4, file(0))), [8]int{}},
		{"a file of MaxFileBytes bytes", tree(dir(0, "f", 1), owned(4, file(200))), [8]int{4: 200}},
		{"two files of one user", tree(dir(0, "f", 1, "g", 2), owned(4, file(3)), owned(4, file(5))), [8]int{4: 8}},
		{"two files of two users", tree(dir(0, "f", 1, "g", 2), owned(4, file(3)), owned(5, file(5))), [8]int{4: 3, 5: 5}},
		{"two names in one directory", tree(dir(0, "f", 1, "g", 1), owned(4, file(3))), [8]int{4: 3}},
		{"two names in two directories", tree(dir(0, "a", 1, "b", 2), dir(0, "f", 3), dir(0, "f", 3), owned(4, file(3))), [8]int{4: 3}},
		{"names in the directories of other users", tree(owned(1, dir(0, "a", 1, "f", 2)), owned(2, dir(9, "f", 2)), owned(3, file(4))), [8]int{3: 4}},
		{"directories of the same user", tree(owned(3, dir(0, "a", 1)), owned(3, dir(9, "f", 2)), owned(3, file(4))), [8]int{3: 4}},
		{"a file behind free inodes", tree(dir(0, "f", 3), api.Inode{}, api.Inode{}, owned(5, file(3)), api.Inode{}), [8]int{5: 3}},
		{"all users", everyone, [8]int{10, 11, 12, 13, 14, 15, 16, 17}},
		{"as many bytes as there can be", full(), [8]int{0: 7400}},
		{"as many names as there can be", crowded(), [8]int{0: 7}},
	}
	for _, c := range cases {
		if totals, got := quota.ByOwner(c.tree); !slices.Equal(totals, c.want[:]) || got != success {
			t.Errorf("%s: ByOwner = %v, %v, want %v", c.about, totals, got, c.want)
		}
	}
}

// checkFault checks the error of a call, and that its result is zero.
func checkFault(t *testing.T, call string, zero bool, got, want api.Fault) {
	t.Helper()
	if !zero || got != want {
		t.Errorf("%s: %v, a zero result: %v, want %v", call, got, zero, want)
	}
}

// checkExceeded checks the error of Exceeded for a file and a size.
func checkExceeded(t *testing.T, tested api.Tree, n, size int, want api.Fault) {
	t.Helper()
	exceeded, got := quota.Exceeded(tested, n, size)
	checkFault(t, fmt.Sprintf("Exceeded(%v, %d, %d)", tested, n, size), len(exceeded) == 0, got, want)
}

// checkRemaining checks the error of Remaining for a file.
func checkRemaining(t *testing.T, tested api.Tree, n int, want api.Fault) {
	t.Helper()
	remaining, got := quota.Remaining(tested, n)
	checkFault(t, fmt.Sprintf("Remaining(%v, %d)", tested, n), remaining == 0, got, want)
}

// checkTree checks that the error of a tree is that of all functions, for any
// file and size.
func checkTree(t *testing.T, tested api.Tree, want api.Fault) {
	t.Helper()
	usages, got := quota.Usage(tested)
	checkFault(t, fmt.Sprintf("Usage(%v)", tested), len(usages) == 0, got, want)
	totals, got := quota.ByOwner(tested)
	checkFault(t, fmt.Sprintf("ByOwner(%v)", tested), len(totals) == 0, got, want)
	for _, n := range []int{math.MinInt, -1, 0, 1, 2, 3, 4, 40, math.MaxInt} {
		checkRemaining(t, tested, n, want)
		for _, size := range []int{math.MinInt, -1, 0, 2, api.MaxFileBytes, api.MaxFileBytes + 1, math.MaxInt} {
			checkExceeded(t, tested, n, size, want)
		}
	}
}

// invalidTree is a tree with its error.
type invalidTree struct {
	tree  api.Tree
	fault api.Fault
}

// invalidInodes are trees for the errors of fstree.Validate that inode 1 has.
func invalidInodes() []invalidTree {
	of := func(kind int, change func(inode *api.Inode)) api.Inode {
		inode := api.Inode{Kind: kind}
		change(&inode)
		return inode
	}
	permissions := func(l ...api.ACLEntry) api.Inode {
		return of(api.KindFile, func(inode *api.Inode) { inode.ACL = l })
	}
	attributes := func(l ...api.Attr) api.Inode {
		return of(api.KindFile, func(inode *api.Inode) { inode.Attrs = l })
	}
	cases := []struct {
		inode api.Inode
		code  int
	}{
		{api.Inode{Kind: 3}, api.ErrKind},
		{api.Inode{Kind: -1}, api.ErrKind},
		{owned(api.MaxUser+1, file(1)), api.ErrRange},
		{owned(math.MaxInt, file(1)), api.ErrRange},
		{owned(-1, file(1)), api.ErrRange},
		{owned(-1, dir(0)), api.ErrRange},
		{of(api.KindFile, func(inode *api.Inode) { inode.Version = api.MaxValue + 1 }), api.ErrRange},
		{of(api.KindFile, func(inode *api.Inode) { inode.Version = -1 }), api.ErrRange},
		{dir(api.MaxQuota + 1), api.ErrRange},
		{dir(-1), api.ErrRange},
		{of(api.KindDir, func(inode *api.Inode) { inode.Data = []byte{0} }), api.ErrMalformed},
		{of(api.KindFile, func(inode *api.Inode) { inode.Entries = dir(0, "g", 2).Entries }), api.ErrMalformed},
		{of(api.KindFile, func(inode *api.Inode) { inode.Quota = 1 }), api.ErrMalformed},
		{file(api.MaxFileBytes + 1), api.ErrTooLarge},
		{permissions(slices.Repeat([]api.ACLEntry{{User: 1, Allow: 1}}, api.MaxACLEntries+1)...), api.ErrTooMany},
		{permissions(api.ACLEntry{User: 8, Allow: 1}), api.ErrRange},
		{permissions(api.ACLEntry{User: 1}), api.ErrMalformed},
		{attributes(make([]api.Attr, api.MaxAttrs+1)...), api.ErrTooMany},
		{attributes(api.Attr{Value: "v"}), api.ErrName},
		{attributes(api.Attr{Name: "k", Value: strings.Repeat("v", api.MaxAttrBytes+1)}), api.ErrTooLarge},
		{attributes(api.Attr{Name: "k"}), api.ErrMalformed},
		{wide(0, api.MaxDirEntries+1, 2), api.ErrTooMany},
		{dir(0, "a/b", 2), api.ErrName},
		{dir(0, strings.Repeat("n", api.MaxNameBytes+1), 2), api.ErrName},
		{dir(0, "b", 2, "a", 2), api.ErrMalformed},
		{dir(0, "a", 2, "a", 2), api.ErrMalformed},
		{dir(0, "a", 4), api.ErrRange},
		{dir(0, "a", -1), api.ErrRange},
		{dir(0, "a", 3), api.ErrRange},
		{dir(0, "a", 0), api.ErrRange},
	}
	var trees []invalidTree
	for _, c := range cases {
		trees = append(trees, invalidTree{tree(dir(9, "e", 1, "f", 2), c.inode, file(1), api.Inode{}), fault(c.code, 1)})
	}
	return trees
}

// chain returns directories of one entry each, the last of which has file 1,
// so that their path has the given names.
func chain(names ...string) api.Tree {
	t := tree(dir(9), file(1))
	n := 0
	for _, name := range names[:len(names)-1] {
		t.Inodes[n].Entries = dir(0, name, len(t.Inodes)).Entries
		n = len(t.Inodes)
		t.Inodes = append(t.Inodes, dir(9))
	}
	t.Inodes[n].Entries = dir(0, names[len(names)-1], 1).Entries
	return t
}

// invalidTrees are trees for the errors of fstree.Validate.
func invalidTrees() []invalidTree {
	const longName = "nnnnnnnnnnnn"
	return append(invalidInodes(), []invalidTree{
		{tree(), fault(api.ErrNotFound, 0)},
		{tree(append([]api.Inode{dir(0)}, make([]api.Inode, api.MaxInodes)...)...), fault(api.ErrTooMany, 0)},
		{tree(file(1)), fault(api.ErrWrongType, 0)},
		{tree(api.Inode{}), fault(api.ErrWrongType, 0)},
		{tree(dir(0, "f", 1), file(1), api.Inode{Version: 1}), fault(api.ErrMalformed, 2)},
		{tree(dir(0, "f", 1), file(1), api.Inode{}, api.Inode{Data: []byte{1}}), fault(api.ErrMalformed, 3)},
		{tree(dir(0, "f", 1), file(1), owned(2, api.Inode{})), fault(api.ErrMalformed, 2)},
		{tree(dir(0, "f", 1), file(1), file(1)), fault(api.ErrState, 2)},
		{tree(dir(0, "f", 1), file(1), dir(0)), fault(api.ErrState, 2)},
		{tree(dir(0, "a", 1, "b", 1), dir(0)), fault(api.ErrState, 1)},
		{tree(dir(0, "f", 1), file(1), dir(0, "a", 3), dir(0, "b", 2)), fault(api.ErrState, 2)},
		{tree(dir(0), dir(0, "a", 1)), fault(api.ErrState, 1)},
		{chain(strings.Split("aaaaaaaaa", "")...), fault(api.ErrTooLarge, 1)},
		{chain(slices.Repeat([]string{longName}, 8)...), fault(api.ErrTooLarge, 1)},
		{tree(dir(2, "f", 1), file(3)), fault(api.ErrNoSpace, 0)},
		{tree(dir(0, "d", 1), dir(2, "f", 2), file(3)), fault(api.ErrNoSpace, 1)},
		{tree(dir(4, "d", 1), dir(5, "f", 2, "g", 3), file(3), file(2)), fault(api.ErrNoSpace, 0)},
		{tree(dir(0, "d", 1), dir(4, "f", 2, "g", 3), file(3), file(2)), fault(api.ErrNoSpace, 1)},
	}...)
}

// TestTreeErrors checks the errors that R8.1 to R8.4 take from fstree.Validate.
// The directory that is over its quota, but would not be over its current
// usage, belongs to them: no valid tree has one.
func TestTreeErrors(t *testing.T) {
	for _, c := range invalidTrees() {
		if got := fstree.Validate(c.tree); got != c.fault {
			t.Errorf("Validate(%v) = %v, want %v", c.tree, got, c.fault)
		}
		checkTree(t, c.tree, c.fault)
	}
}

// TestTreeErrorOrder checks R8.1 to R8.4 for trees with two errors: the one that
// fstree.Validate checks first is returned.
func TestTreeErrorOrder(t *testing.T) {
	steps := []struct {
		fault api.Fault
		add   func(t *api.Tree)
	}{
		{fault(api.ErrTooMany, 0), func(t *api.Tree) { t.Inodes = append(t.Inodes, make([]api.Inode, 35)...) }},
		{fault(api.ErrWrongType, 0), func(t *api.Tree) { t.Inodes[0].Kind = api.KindFile }},
		{fault(api.ErrRange, 1), func(t *api.Tree) { t.Inodes[1].Owner = 8 }},
		{fault(api.ErrMalformed, 2), func(t *api.Tree) { t.Inodes[2].Data = []byte{1} }},
		{fault(api.ErrKind, 3), func(t *api.Tree) { t.Inodes[3].Kind = 3 }},
		{fault(api.ErrMalformed, 4), func(t *api.Tree) { t.Inodes[4].Owner = 1 }},
		{fault(api.ErrState, 5), func(t *api.Tree) { t.Inodes[5] = file(0) }},
		{fault(api.ErrState, 1), func(t *api.Tree) {
			t.Inodes[0].Entries = dir(0, "f", 3).Entries
			t.Inodes[1].Entries = dir(0, "d", 2).Entries
			t.Inodes[2].Entries = dir(0, "e", 1).Entries
		}},
		{fault(api.ErrNoSpace, 0), func(t *api.Tree) { t.Inodes[0].Quota = 1 }},
	}
	for i, first := range steps {
		for _, second := range steps[i:] {
			wrong := tree(dir(9, "d", 1, "e", 2, "f", 3), dir(5, "f", 3), dir(0), file(2), api.Inode{}, api.Inode{})
			if got := fstree.Validate(wrong); got != success {
				t.Fatalf("Validate: %v", got)
			}
			// The first one is added last, so that it is there in any case.
			second.add(&wrong)
			first.add(&wrong)
			checkTree(t, wrong, first.fault)
		}
	}
}

// TestFileErrors checks the errors of R8.2 and R8.3 for the number of a file,
// and the order of those of R8.2 for a number and a size.
func TestFileErrors(t *testing.T) {
	// The root, a directory, a free inode and a file, which is not the last one.
	mixed := tree(dir(9, "d", 1, "f", 3), dir(5, "f", 3), api.Inode{}, file(2), api.Inode{})
	outside, wrong := fault(api.ErrRange, -1), fault(api.ErrWrongType, -1)
	numbers := map[int]api.Fault{
		math.MinInt: outside, -3: outside, -1: outside, 5: outside, 6: outside, 39: outside, 40: outside, math.MaxInt: outside,
		0: wrong, 1: wrong, 2: wrong, 4: wrong,
		3: success,
	}
	wrongSizes := []int{math.MinInt, -1, api.MaxFileBytes + 1, api.MaxFileBytes + 2, math.MaxInt}
	for n, want := range numbers {
		if want != success {
			checkRemaining(t, mixed, n, want)
			for _, size := range []int{0, 1, 2, 3, 5, 6, 100, api.MaxFileBytes - 1, api.MaxFileBytes} {
				checkExceeded(t, mixed, n, size, want)
			}
		}
		for _, size := range wrongSizes {
			checkExceeded(t, mixed, n, size, outside)
		}
	}
}

// TestLastInode checks the errors of R8.2 and R8.3 for the numbers at both ends
// of trees of each size.
func TestLastInode(t *testing.T) {
	for count := 1; count <= api.MaxInodes; count++ {
		tested := tree(dir(0))
		for len(tested.Inodes) < count {
			tested.Inodes = append(tested.Inodes, api.Inode{})
		}
		for _, n := range []int{-1, count} {
			checkRemaining(t, tested, n, fault(api.ErrRange, -1))
			checkExceeded(t, tested, n, 0, fault(api.ErrRange, -1))
		}
		for _, n := range []int{0, count - 1} {
			checkRemaining(t, tested, n, fault(api.ErrWrongType, -1))
			checkExceeded(t, tested, n, 0, fault(api.ErrWrongType, -1))
		}
		if last := count - 1; last > 0 {
			tested.Inodes[0] = dir(5, "f", last)
			tested.Inodes[last] = file(3)
			remaining, f1 := quota.Remaining(tested, last)
			exceeded, f2 := quota.Exceeded(tested, last, 6)
			if remaining != 2 || !slices.Equal(exceeded, []int{0}) || f1 != success || f2 != success {
				t.Errorf("the last of %d inodes: %d, %v, %v, %v", count, remaining, f1, exceeded, f2)
			}
		}
	}
}
