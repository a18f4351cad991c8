package path_test

import (
	"fmt"
	"slices"
	"strings"
	"sync"
	"testing"

	"farshelf/api"
	"farshelf/path"
)

// strangeTexts returns strings that no caller should pass.
func strangeTexts() []string {
	return []string{
		"", "\x00", "/\x00", "\xff\xfe", "/\xff", "/\xc3", "/a\xed\xa0\x80", "\u2028/", "/\u00e9/..",
		"/...", "/....", "//./../", "..//..", "\r\n", "/a\t", "C:\\a", "/a\\b", "~", "/*", "/%2e",
		strings.Repeat("/", 1<<20), strings.Repeat("/a", 1<<19), strings.Repeat("../", 1<<18),
		strings.Repeat("\xff", 99), strings.Repeat("/\xff", 50), strings.Repeat("a", 1<<20),
	}
}

// describe returns the results of all functions for two texts, or the panic of
// one of them.
func describe(a, b string) (all string) {
	defer func() {
		if e := recover(); e != nil {
			all = fmt.Sprint("panic: ", e)
		}
	}()
	split, f1 := path.Split(a)
	join, f2 := path.Join([]string{a, b})
	clean, f3 := path.Clean(a)
	contains, f4 := path.Contains(a, b)
	return fmt.Sprintf("%q %v %q %v %q %v %v %v", split, f1, join, f2, clean, f3, contains, f4)
}

// TestTotality checks Z1: no argument makes a function panic.
func TestTotality(t *testing.T) {
	for _, a := range strangeTexts() {
		for _, b := range strangeTexts() {
			if all := describe(a, b); strings.HasPrefix(all, "panic") {
				t.Errorf("%.40q, %.40q: %s", a, b, all)
			}
		}
	}
	for _, n := range []int{1, 7, 8, 9, 1 << 16} {
		for _, e := range strangeTexts()[:20] {
			path.Join(repeated(e, n))
		}
	}
}

// TestZeroResults checks Z2: with a fault, the other result is zero, and
// without one the fault has no index either.
func TestZeroResults(t *testing.T) {
	for _, text := range append(texts([]string{"/", ".", "a", "!"}, 5), strangeTexts()...) {
		split, fault := path.Split(text)
		if fault.Code != api.OK && len(split) != 0 || fault.Code == api.OK && fault.Index != 0 {
			t.Errorf("Split(%.40q) = %q, %v", text, split, fault)
		}
		join, fault := path.Join([]string{"a", text})
		if (fault.Code != api.OK) != (join == "") || fault.Code == api.OK && fault.Index != 0 {
			t.Errorf("Join(a, %.40q) = %q, %v", text, join, fault)
		}
		clean, fault := path.Clean(text)
		if (fault.Code != api.OK) != (clean == "") || fault.Code == api.OK && fault.Index != 0 {
			t.Errorf("Clean(%.40q) = %q, %v", text, clean, fault)
		}
		contains, fault := path.Contains("/", text)
		if (fault.Code != api.OK) == contains || fault.Code == api.OK && fault.Index != 0 {
			t.Errorf("Contains(/, %.40q) = %v, %v", text, contains, fault)
		}
	}
}

// TestIndexOnlyCountsNames checks Z2: an error that counts nothing has index 0.
func TestIndexOnlyCountsNames(t *testing.T) {
	for _, text := range []string{tooLong, tooLong[1:], tooDeep, tooDeep[1:], "a/b", ""} {
		if _, fault := path.Split(text); fault.Index != 0 {
			t.Errorf("Split(%q): %v", text, fault)
		}
		if _, fault := path.Clean(text); fault.Index != 0 {
			t.Errorf("Clean(%q): %v", text, fault)
		}
	}
	for _, l := range [][]string{repeated("d", 9), repeated(longName, 8)} {
		if _, fault := path.Join(l); fault.Index != 0 {
			t.Errorf("Join(%q): %v", l, fault)
		}
	}
}

// TestJoinLeavesItsArgument checks Z4: neither the list nor its spare capacity
// is modified.
func TestJoinLeavesItsArgument(t *testing.T) {
	for _, whole := range [][]string{
		{"a", "b", "spare", "room"},
		{"a", "..", "spare", "room"},
		{"", "b", "spare", "room"},
	} {
		before := slices.Clone(whole)
		path.Join(whole[:2])
		if !slices.Equal(whole, before) {
			t.Errorf("Join changed %q to %q", before, whole)
		}
	}
	l := []string{"a", "b"}
	joined, _ := path.Join(l)
	l[0] = "x"
	if joined != "/a/b" {
		t.Errorf("the result of Join became %q", joined)
	}
}

// TestSplitResultsAreSeparate checks Z4: a caller that changes one result, or
// appends to it, changes no other result.
func TestSplitResultsAreSeparate(t *testing.T) {
	first, _ := path.Split("/a/b/c")
	second, _ := path.Split("/a/b/c")
	first[0], first[2] = "x", "z"
	_ = append(first[:1], "y", "y", "y", "y")
	third, _ := path.Split("/a/b/c")
	want := []string{"a", "b", "c"}
	if !slices.Equal(second, want) || !slices.Equal(third, want) {
		t.Errorf("results are %q and %q after a change of the first", second, third)
	}
}

// TestDeterminism checks Z5: a call returns the same whatever was called
// before it or is called at the same time.
func TestDeterminism(t *testing.T) {
	all := append(texts([]string{"/a", "/..", "!"}, 3), "", "/", deepest, tooDeep, longest, tooLong)
	want := make([]string, len(all))
	for i, text := range all {
		want[i] = describe(text, "/a")
	}
	var group sync.WaitGroup
	for worker := range 4 {
		group.Go(func() {
			for k := range all {
				i := (len(all) - k + worker*7) % len(all)
				if got := describe(all[i], "/a"); got != want[i] {
					t.Errorf("%q: %s, then %s", all[i], want[i], got)
				}
			}
		})
	}
	group.Wait()
}

// TestEmptyLists checks Z6: nil and empty lists are equivalent.
func TestEmptyLists(t *testing.T) {
	for _, l := range [][]string{nil, {}, make([]string, 0, 8), repeated("a", 2)[:0]} {
		if got, fault := path.Join(l); got != "/" || fault != success {
			t.Errorf("Join of an empty list = %q, %v", got, fault)
		}
	}
	if got, fault := path.Split("/"); len(got) != 0 || fault != success {
		t.Errorf("Split(/) = %q, %v", got, fault)
	}
}
