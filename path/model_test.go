package path_test

import (
	"regexp"
	"slices"
	"strings"
	"testing"

	"farshelf/api"
	"farshelf/path"
)

// The models follow the definitions of the document in another way than the
// package: names by a regular expression, and ".." by counting from the end.

var namePattern = regexp.MustCompile(`^[A-Za-z0-9._-]{1,12}\z`)

func modelName(text string) bool {
	return namePattern.MatchString(text) && text != "." && text != ".."
}

func modelComponents(l []string) api.Fault {
	for i, c := range l {
		if !modelName(c) {
			return name(i)
		}
	}
	if len(l) > 8 {
		return tooLarge
	}
	return success
}

func modelSplit(p string) ([]string, api.Fault) {
	if len(p) > 100 {
		return nil, tooMany
	}
	if p == "" || p[0] != '/' {
		return nil, malformed
	}
	if p == "/" {
		return nil, success
	}
	l := strings.Split(p, "/")[1:]
	if f := modelComponents(l); f != success {
		return nil, f
	}
	return l, success
}

func modelJoin(l []string) (string, api.Fault) {
	if f := modelComponents(l); f != success {
		return "", f
	}
	p := ""
	for _, c := range l {
		p += "/" + c
	}
	if len(p) > 100 {
		return "", tooMany
	}
	if p == "" {
		return "/", success
	}
	return p, success
}

func modelClean(text string) (string, api.Fault) {
	if len(text) > 100 {
		return "", tooMany
	}
	var kept []string
	removed := 0
	for _, e := range slices.Backward(strings.Split(text, "/")) {
		switch {
		case e == "" || e == ".":
		case e == "..":
			removed++
		case removed > 0:
			removed--
		default:
			kept = append(kept, e)
		}
	}
	slices.Reverse(kept)
	return modelJoin(kept)
}

func modelContains(a, b string) (bool, api.Fault) {
	if _, f := modelSplit(a); f != success {
		return false, f
	}
	if _, f := modelSplit(b); f != success {
		return false, api.Fault{Code: f.Code, Index: -1 - f.Index}
	}
	return a == "/" || strings.HasPrefix(b+"/", a+"/"), success
}

// texts returns all strings of at most n elements of the alphabet.
func texts(alphabet []string, n int) []string {
	all := []string{""}
	last := all
	for range n {
		var next []string
		for _, head := range last {
			for _, tail := range alphabet {
				next = append(next, head+tail)
			}
		}
		all = append(all, next...)
		last = next
	}
	return all
}

func compareSplit(t *testing.T, p string) {
	t.Helper()
	got, fault := path.Split(p)
	want, wantFault := modelSplit(p)
	if !slices.Equal(got, want) || fault != wantFault {
		t.Errorf("Split(%q) = %q, %v, want %q, %v", p, got, fault, want, wantFault)
	}
}

func compareJoin(t *testing.T, l []string) {
	t.Helper()
	got, fault := path.Join(l)
	want, wantFault := modelJoin(l)
	if got != want || fault != wantFault {
		t.Errorf("Join(%q) = %q, %v, want %q, %v", l, got, fault, want, wantFault)
	}
}

func compareClean(t *testing.T, text string) {
	t.Helper()
	got, fault := path.Clean(text)
	want, wantFault := modelClean(text)
	if got != want || fault != wantFault {
		t.Errorf("Clean(%q) = %q, %v, want %q, %v", text, got, fault, want, wantFault)
	}
}

func compareContains(t *testing.T, a, b string) {
	t.Helper()
	got, fault := path.Contains(a, b)
	want, wantFault := modelContains(a, b)
	if got != want || fault != wantFault {
		t.Errorf("Contains(%q, %q) = %v, %v, want %v, %v", a, b, got, fault, want, wantFault)
	}
}

// TestNameBytes tries every byte as a name, at each end of one and inside it.
func TestNameBytes(t *testing.T) {
	for i := range 256 {
		b := string([]byte{byte(i)})
		for _, text := range []string{b, b + "x", "x" + b, "x" + b + "x"} {
			compareJoin(t, []string{"a", text})
			compareSplit(t, "/a/"+text)
			compareClean(t, "a/"+text)
			compareContains(t, "/a", "/a/"+text)
		}
	}
}

// TestNameLetters rejects letters and digits that are not ASCII.
func TestNameLetters(t *testing.T) {
	for _, text := range []string{"\u00e9", "\u00aa", "\u03b1", "\u0660", "\uff41", "\uff0e", "\ufffd", "\u212a", "\U0001d41a", "\u0141", "\u0130"} {
		if _, fault := path.Join([]string{text}); fault != name(0) {
			t.Errorf("Join(%q): %v", text, fault)
		}
		if _, fault := path.Split("/a/x" + text); fault != name(1) {
			t.Errorf("Split(%q): %v", "/a/x"+text, fault)
		}
	}
}

// TestShortTexts compares all short strings of critical elements with the
// models.
func TestShortTexts(t *testing.T) {
	for _, text := range texts([]string{"/", ".", "a", "!"}, 7) {
		compareSplit(t, text)
		compareClean(t, text)
	}
	for _, text := range texts([]string{"/", "/.", "/..", "/a", "/b!"}, 6)[1:] {
		compareSplit(t, text)
		compareClean(t, text)
		compareJoin(t, strings.Split(text, "/")[1:])
	}
}

// TestShortLists compares all short lists of critical elements with the model.
func TestShortLists(t *testing.T) {
	lists := [][]string{nil}
	for i := 0; i < len(lists) && len(lists[i]) < 4; i++ {
		for _, e := range []string{"", ".", "..", "a", "b-c", "/", longName, tooLongName} {
			lists = append(lists, append(slices.Clone(lists[i]), e))
		}
	}
	for _, l := range lists {
		compareJoin(t, l)
	}
}

// TestLimits compares inputs of all lengths and depths around the limits with
// the models.
func TestLimits(t *testing.T) {
	for size := 1; size <= 14; size++ {
		for depth := range 12 {
			for _, last := range []string{"", "x", "xyz", "!", ".."} {
				l := append(repeated(strings.Repeat("n", size), depth), last)
				compareJoin(t, l)
				compareJoin(t, l[:depth])
				text := strings.Join(l, "/")
				for _, p := range []string{text, "/" + text, text + "/", "/" + text + "/..", "./" + text} {
					compareSplit(t, p)
					compareClean(t, p)
				}
			}
		}
	}
	for size := range 130 {
		for _, unit := range []string{"a", "/", "/a", "/ab/..", "12345678901/", "/123456789012"} {
			text := strings.Repeat(unit, size)
			compareSplit(t, text[:size])
			compareClean(t, text[:size])
		}
	}
}

// TestContainsPairs compares all pairs of short paths, valid or not, with the
// model.
func TestContainsPairs(t *testing.T) {
	paths := texts([]string{"/a", "/b", "a", "/", "/!"}, 3)
	paths = append(paths, deepest, tooDeep, longest, tooLong, longest[:99], longest[:91])
	for _, a := range paths {
		for _, b := range paths {
			compareContains(t, a, b)
		}
	}
}

// TestRoundTrips checks how the functions fit together: a valid path is its
// components joined, is clean, and contains itself; a clean path is valid.
func TestRoundTrips(t *testing.T) {
	for _, p := range append(texts([]string{"/a", "/b.c", "/..."}, 5), "/", deepest, longest) {
		if p == "" {
			continue
		}
		l, fault := path.Split(p)
		if fault != success {
			t.Errorf("Split(%q): %v", p, fault)
		}
		if joined, fault := path.Join(l); joined != p || fault != success {
			t.Errorf("Join(%q) = %q, %v, want %q", l, joined, fault, p)
		}
		if clean, fault := path.Clean(p); clean != p || fault != success {
			t.Errorf("Clean(%q) = %q, %v", p, clean, fault)
		}
	}
	for _, text := range texts([]string{"/", ".", "a"}, 8) {
		clean, fault := path.Clean(text)
		if fault != success {
			t.Errorf("Clean(%q): %v", text, fault)
		}
		if _, fault := path.Split(clean); fault != success {
			t.Errorf("Clean(%q) = %q, which Split rejects: %v", text, clean, fault)
		}
	}
}
