package path_test

import (
	"slices"
	"strings"
	"testing"

	"farshelf/api"
	"farshelf/path"
)

// Inputs at the limits and one beyond them.
var (
	longName    = strings.Repeat("n", api.MaxNameBytes)
	tooLongName = longName + "n"
	deepest     = strings.Repeat("/d", api.MaxDepth)
	tooDeep     = deepest + "/d"
	longest     = strings.Repeat("/"+longName, 7) + "/12345678"
	tooLong     = longest + "9"
)

func name(index int) api.Fault { return api.Fault{Code: api.ErrName, Index: index} }

var (
	success   = api.Fault{}
	tooMany   = api.Fault{Code: api.ErrTooMany}
	tooLarge  = api.Fault{Code: api.ErrTooLarge}
	malformed = api.Fault{Code: api.ErrMalformed}
)

// repeated returns a list of n equal elements.
func repeated(element string, n int) []string { return slices.Repeat([]string{element}, n) }

// TestFixtures keeps the long inputs at the limits they are meant to probe.
func TestFixtures(t *testing.T) {
	if len(longName) != 12 || len(longest) != 100 || len(tooLong) != 101 {
		t.Errorf("lengths are %d, %d and %d", len(longName), len(longest), len(tooLong))
	}
	if strings.Count(longest, "/") != 8 || strings.Count(tooLong, "/") != 8 {
		t.Error("the longest paths must not exceed the depth limit")
	}
	if strings.Count(deepest, "/") != 8 || strings.Count(tooDeep, "/") != 9 {
		t.Error("the deepest paths are not at the depth limit")
	}
}

// TestSplit checks R1.1.
func TestSplit(t *testing.T) {
	cases := []struct {
		path  string
		want  []string
		fault api.Fault
	}{
		{"/a/b", []string{"a", "b"}, success},
		{"/", nil, success},
		{"/a", []string{"a"}, success},
		{"/b/a/b", []string{"b", "a", "b"}, success},
		{"/Az09._-/.x/x./...", []string{"Az09._-", ".x", "x.", "..."}, success},
		{"/-/_/..a/....", []string{"-", "_", "..a", "...."}, success},
		{"/" + longName, []string{longName}, success},
		{deepest, repeated("d", 8), success},
		{longest, append(repeated(longName, 7), "12345678"), success},

		{tooLong, nil, tooMany},
		{"", nil, malformed},
		{"a", nil, malformed},
		{"a/b", nil, malformed},
		{".", nil, malformed},
		{" /a", nil, malformed},
		{"\\a", nil, malformed},
		{strings.Repeat("a", 100), nil, malformed},
		{"/a//b", nil, name(1)},
		{"//", nil, name(0)},
		{"//a", nil, name(0)},
		{"/a/", nil, name(1)},
		{"/a/b/", nil, name(2)},
		{"/.", nil, name(0)},
		{"/..", nil, name(0)},
		{"/a/./b", nil, name(1)},
		{"/a/b/..", nil, name(2)},
		{"/a/b c", nil, name(1)},
		{"/a/\x00", nil, name(1)},
		{"/a\n", nil, name(0)},
		{"/" + tooLongName, nil, name(0)},
		{"/a/" + tooLongName, nil, name(1)},
		{tooDeep, nil, tooLarge},
		{strings.Repeat("/d", 50), nil, tooLarge},
	}
	for _, c := range cases {
		got, fault := path.Split(c.path)
		if !slices.Equal(got, c.want) || fault != c.fault {
			t.Errorf("Split(%q) = %q, %v, want %q, %v", c.path, got, fault, c.want, c.fault)
		}
	}
}

// TestSplitOrder checks the order of the errors of R1.1 with inputs to which
// two of them apply.
func TestSplitOrder(t *testing.T) {
	cases := []struct {
		about, path string
		fault       api.Fault
	}{
		{"too long, no leading slash", strings.Repeat("a", 101), tooMany},
		{"too long, bad name", "/" + strings.Repeat("!", 100), tooMany},
		{"too long in bytes but not in runes", "/" + strings.Repeat("\u00e9", 50), tooMany},
		{"too long, too deep", strings.Repeat("/d", 51), tooMany},
		{"too long, all slashes", strings.Repeat("/", 101), tooMany},
		{"no leading slash, bad name", "a//b", malformed},
		{"no leading slash, too deep", tooDeep[1:], malformed},
		{"two bad names", "/a/!/?", name(1)},
		{"bad name, then an empty one", "/!//", name(0)},
		{"too deep, first name bad", "/!" + deepest, name(0)},
		{"too deep, last allowed name bad", strings.Repeat("/d", 7) + "/!/d", name(7)},
		{"too deep, first name too many bad", deepest + "/!", name(8)},
		{"too deep, bad name far below", strings.Repeat("/d", 40) + "/..", name(40)},
		{"too deep, trailing slash", tooDeep + "/", name(9)},
		{"all slashes", strings.Repeat("/", 100), name(0)},
	}
	for _, c := range cases {
		if got, fault := path.Split(c.path); len(got) != 0 || fault != c.fault {
			t.Errorf("%s: Split(%q) = %q, %v, want %v", c.about, c.path, got, fault, c.fault)
		}
	}
}

// TestJoin checks R1.2.
func TestJoin(t *testing.T) {
	cases := []struct {
		l     []string
		want  string
		fault api.Fault
	}{
		{[]string{"a", "b"}, "/a/b", success},
		{nil, "/", success},
		{[]string{}, "/", success},
		{[]string{"a"}, "/a", success},
		{[]string{"b", "a", "b"}, "/b/a/b", success},
		{[]string{"Az09._-", ".x", "x.", "..."}, "/Az09._-/.x/x./...", success},
		{[]string{longName}, "/" + longName, success},
		{repeated("d", 8), deepest, success},
		{append(repeated(longName, 7), "12345678"), longest, success},

		{append(repeated(longName, 7), "123456789"), "", tooMany},
		{repeated(longName, 8), "", tooMany},
		{repeated("d", 9), "", tooLarge},
		{repeated("d", 1000), "", tooLarge},
		{[]string{""}, "", name(0)},
		{[]string{"."}, "", name(0)},
		{[]string{".."}, "", name(0)},
		{[]string{"a", ""}, "", name(1)},
		{[]string{"a", ".", "b"}, "", name(1)},
		{[]string{"a", "b", ".."}, "", name(2)},
		{[]string{"a/b"}, "", name(0)},
		{[]string{"/a"}, "", name(0)},
		{[]string{"a", "b/"}, "", name(1)},
		{[]string{"a", "b", "c d"}, "", name(2)},
		{[]string{tooLongName}, "", name(0)},
		{[]string{"a", tooLongName}, "", name(1)},
	}
	for _, c := range cases {
		if got, fault := path.Join(c.l); got != c.want || fault != c.fault {
			t.Errorf("Join(%q) = %q, %v, want %q, %v", c.l, got, fault, c.want, c.fault)
		}
	}
}

// TestJoinOrder checks the order of the errors of R1.2 with inputs to which
// two of them apply.
func TestJoinOrder(t *testing.T) {
	cases := []struct {
		about string
		l     []string
		fault api.Fault
	}{
		{"two bad names", []string{"a", "!", "?"}, name(1)},
		{"too deep, first name bad", append([]string{"!"}, repeated("d", 8)...), name(0)},
		{"too deep, ninth name bad", append(repeated("d", 8), "!"), name(8)},
		{"too deep, last name bad", append(repeated("d", 500), ".."), name(500)},
		{"too long, last name bad", append(repeated(longName, 7), "!"), name(7)},
		{"too long because of a bad name", []string{strings.Repeat("n", 200)}, name(0)},
		{"too deep, too long", repeated(longName, 9), tooLarge},
	}
	for _, c := range cases {
		if got, fault := path.Join(c.l); got != "" || fault != c.fault {
			t.Errorf("%s: Join(%q) = %q, %v, want %v", c.about, c.l, got, fault, c.fault)
		}
	}
}

// TestClean checks R1.3.
func TestClean(t *testing.T) {
	cases := []struct {
		text, want string
		fault      api.Fault
	}{
		{"a/./b/../c", "/a/c", success},
		{"/a/./b/../c", "/a/c", success},
		{"//x//../y/", "/y", success},
		{"", "/", success},
		{"/", "/", success},
		{"///", "/", success},
		{".", "/", success},
		{"./.", "/", success},
		{"..", "/", success},
		{"/..", "/", success},
		{"../../a", "/a", success},
		{"a/..", "/", success},
		{"a/../..", "/", success},
		{"a/../../b", "/b", success},
		{"a/b/../../c", "/c", success},
		{"a/b/c/../d", "/a/b/d", success},
		{"a/./../b", "/b", success},
		{"a//../b", "/b", success},
		{"a/b/..", "/a", success},
		{"a/b/.", "/a/b", success},
		{"a/b/", "/a/b", success},
		{"a", "/a", success},
		{"/a/b", "/a/b", success},
		{"a/.../b", "/a/.../b", success},
		{"a/..b/.c", "/a/..b/.c", success},
		{"a/b./..", "/a", success},
		{deepest, deepest, success},
		{deepest[1:], deepest, success},
		{tooDeep + "/..", deepest, success},
		{strings.Repeat("d/", 33) + strings.Repeat("/..", 11), "", tooLarge},
		{strings.Repeat("d/", 25) + strings.Repeat("../", 16) + "..", deepest, success},
		{longest, longest, success},
		{longest[1:], longest, success},
		{strings.Repeat("/", 100), "/", success},

		{"!/..", "/", success},
		{"a/b c/../d", "/a/d", success},
		{tooLongName + "/../a", "/a", success},
		{"a/!", "", name(1)},
		{"/!", "", name(0)},
		{"a/../!", "", name(0)},
		{"./a//b/./!", "", name(2)},
		{"a/b/../../!/c", "", name(0)},
		{"a/" + tooLongName, "", name(1)},
		{tooDeep, "", tooLarge},
		{tooDeep[1:], "", tooLarge},
		{tooDeep + "/.", "", tooLarge},
		{longest + "/", "", tooMany},
		{tooLong[1:], "", tooMany},
		{strings.Repeat("/", 101), "", tooMany},
	}
	for _, c := range cases {
		if got, fault := path.Clean(c.text); got != c.want || fault != c.fault {
			t.Errorf("Clean(%q) = %q, %v, want %q, %v", c.text, got, fault, c.want, c.fault)
		}
	}
}

// TestCleanOrder checks the order of the errors of R1.3 with inputs to which
// two of them apply.
func TestCleanOrder(t *testing.T) {
	cases := []struct {
		about, text string
		fault       api.Fault
	}{
		{"too long, bad name", "a/" + strings.Repeat("!", 99), tooMany},
		{"too long, too deep", strings.Repeat("d/", 51), tooMany},
		{"too long in bytes but not in runes", strings.Repeat("\u00e9", 51), tooMany},
		{"too long only before cleaning", "/a" + strings.Repeat("/.", 50), tooMany},
		{"two bad names", "a/!/?", name(1)},
		{"first bad name removed", "a/!/../b/?", name(2)},
		{"too deep, ninth name bad", deepest + "/!", name(8)},
		{"result too long, last name bad", longest[1:len(longest)-1] + "!!", name(7)},
		{"too deep, result too long", strings.Repeat("123456789/", 9) + "1234567890", tooLarge},
	}
	for _, c := range cases {
		if got, fault := path.Clean(c.text); got != "" || fault != c.fault {
			t.Errorf("%s: Clean(%q) = %q, %v, want %v", c.about, c.text, got, fault, c.fault)
		}
	}
}

// TestContains checks R1.4.
func TestContains(t *testing.T) {
	cases := []struct {
		a, b string
		want bool
	}{
		{"/a", "/a/b", true},
		{"/a", "/ab", false},
		{"/", "/", true},
		{"/", "/a", true},
		{"/", deepest, true},
		{"/a", "/a", true},
		{"/a", "/", false},
		{"/a/b", "/a", false},
		{"/a/b", "/a/b", true},
		{"/a/b", "/a/b/c/d", true},
		{"/a/b", "/a/c", false},
		{"/a/b", "/c/b", false},
		{"/a", "/b", false},
		{"/a", "/b/a", false},
		{"/b", "/a/b", false},
		{"/ab", "/a", false},
		{"/ab", "/a/b", false},
		{"/a/b", "/a/bc/d", false},
		{"/a/b/c", "/a/b/d", false},
		{"/a", "/A/b", false},
		{"/a.b", "/a-b", false},
		{deepest, deepest, true},
		{deepest[2:], deepest, true},
		{deepest, deepest[2:], false},
		{longest, longest, true},
		{longest, longest[:99], false},
		{longest[:99], longest, false},
		{longest[:91], longest, true},
	}
	for _, c := range cases {
		if got, fault := path.Contains(c.a, c.b); got != c.want || fault != success {
			t.Errorf("Contains(%q, %q) = %v, %v, want %v", c.a, c.b, got, fault, c.want)
		}
	}
}

// TestContainsErrors checks the errors of R1.4 and their order.
func TestContainsErrors(t *testing.T) {
	second := func(f api.Fault) api.Fault { return api.Fault{Code: f.Code, Index: -1 - f.Index} }
	cases := []struct {
		a, b  string
		fault api.Fault
	}{
		{tooLong, "/a", tooMany},
		{"a", "/a", malformed},
		{"", "/a", malformed},
		{"//", "/a", name(0)},
		{"/a/", "/a", name(1)},
		{"/a/b/..", "/a/b", name(2)},
		{tooDeep, "/a", tooLarge},

		{"/", tooLong, second(tooMany)},
		{"/", "", second(malformed)},
		{"/a", "a/b", second(malformed)},
		{"/", "//", second(name(0))},
		{"/a", "/a/", second(name(1))},
		{"/a", "/a/b/!", second(name(2))},
		{deepest, tooDeep, second(tooLarge)},
		{deepest, deepest + "/!", second(name(8))},

		{"/a/!", "/!", name(1)},
		{"/a/!", "a", name(1)},
		{tooDeep, tooLong, tooLarge},
		{"a", "//", malformed},
		{"/!", "/!", name(0)},
	}
	for _, c := range cases {
		if got, fault := path.Contains(c.a, c.b); got || fault != c.fault {
			t.Errorf("Contains(%q, %q) = %v, %v, want %v", c.a, c.b, got, fault, c.fault)
		}
	}
	if second(malformed).Index != -1 || second(name(1)).Index != -2 {
		t.Error("the index of an error of b is not -1-Index")
	}
}
