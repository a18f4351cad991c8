package xattr_test

import (
	"slices"
	"strings"
	"testing"

	"farshelf/api"
	"farshelf/xattr"
)

type list = []api.Attr

// Inputs at the limits and one beyond them.
var (
	longName     = strings.Repeat("n", api.MaxNameBytes)
	tooLongName  = longName + "n"
	longValue    = strings.Repeat("v", api.MaxAttrBytes)
	tooLongValue = longValue + "v"
)

var (
	success  = api.Fault{}
	tooMany  = api.Fault{Code: api.ErrTooMany}
	notFound = api.Fault{Code: api.ErrNotFound}
	noSpace  = api.Fault{Code: api.ErrNoSpace}
)

func badName(index int) api.Fault { return api.Fault{Code: api.ErrName, Index: index} }

func tooLarge(index int) api.Fault { return api.Fault{Code: api.ErrTooLarge, Index: index} }

func malformed(index int) api.Fault { return api.Fault{Code: api.ErrMalformed, Index: index} }

// attrs returns the list of the given names, each followed by its value.
func attrs(texts ...string) list {
	var l list
	for i := 0; i+1 < len(texts); i += 2 {
		l = append(l, api.Attr{Name: texts[i], Value: texts[i+1]})
	}
	return l
}

// full returns a list of as many attributes as are allowed, with gaps before,
// between and after its names.
func full() list {
	return attrs("b", "1", "d", "2", "f", "3", "h", "4", "j", "5", "l", "6")
}

// TestFixtures keeps the inputs at the limits they are meant to probe.
func TestFixtures(t *testing.T) {
	if len(longName) != 12 || len(longValue) != 20 || len(full()) != 6 {
		t.Errorf("lengths are %d, %d and %d", len(longName), len(longValue), len(full()))
	}
}

// notNames are strings that are not a name.
var notNames = []string{
	"", ".", "..", "/", "a/b", "/a", "a/", "a b", " a", "a\x00", "a\n", "\xff", "a\xc3", "\u00e9", "a=b", "*", "~", "user:a",
	tooLongName, strings.Repeat("n", 1000), strings.Repeat("\u00e9", 6),
}

// TestValidateAccepts checks R3.1 for valid lists.
func TestValidateAccepts(t *testing.T) {
	lists := []list{
		nil,
		{},
		full(),
		attrs("a", "1"),
		attrs(longName, longValue),
		attrs("...", "1", ".a", "1", "a.", "1", "a_-", "1"),
		attrs("a", "same", "b", "same"),
		attrs("a", "2", "b", "1"),
		attrs("a", "\x00", "b", "\xff\xfe", "c", " ", "d", "/", "e", "\u00e9", "f", "a\nb"),
		attrs("a", strings.Repeat("\u00e9", 10)),
		// The order of names is that of their bytes.
		attrs("-", "1", ".x", "1", "0", "1", "A", "1", "_", "1", "a", "1"),
		attrs("10", "1", "9", "1", "B", "1", "a", "1"),
		attrs("a", "1", "a-", "1", "a.", "1", "a0", "1", "aa", "1", "b", "1"),
		attrs(longName[1:], longValue, longName, longValue),
	}
	for _, l := range lists {
		if fault := xattr.Validate(l); fault != success {
			t.Errorf("Validate(%q) = %v", l, fault)
		}
	}
}

// TestValidateNames checks R3.1 for every byte of a name: ErrName is for what
// package path does not take for a name, and for nothing else.
func TestValidateNames(t *testing.T) {
	const inNames = "abcdefghijklmnopqrstuvwxyzABCDEFGHIJKLMNOPQRSTUVWXYZ0123456789._-"
	for c := range 256 {
		want := badName(0)
		if strings.IndexByte(inNames, byte(c)) >= 0 {
			want = success
		}
		for _, name := range []string{"x" + string([]byte{byte(c)}), string([]byte{byte(c)}) + "x"} {
			if fault := xattr.Validate(attrs(name, "1")); fault != want {
				t.Errorf("Validate of the name %q = %v, want %v", name, fault, want)
			}
		}
	}
	for n := range 40 {
		want := badName(0)
		if 1 <= n && n <= 12 {
			want = success
		}
		if fault := xattr.Validate(attrs(strings.Repeat("n", n), "1")); fault != want {
			t.Errorf("Validate of a name of %d bytes = %v, want %v", n, fault, want)
		}
	}
	for _, name := range notNames {
		if fault := xattr.Validate(attrs(name, "1")); fault != badName(0) {
			t.Errorf("Validate of the name %q = %v", name, fault)
		}
	}
}

// invalidLists are lists with their errors, for the errors of all functions.
var invalidLists = []struct {
	about string
	l     list
	fault api.Fault
}{
	{"one attribute too many", append(full(), api.Attr{Name: "n", Value: "7"}), tooMany},
	{"far too many attributes", slices.Repeat(full(), 1000), tooMany},

	{"an empty name", attrs("", "1"), badName(0)},
	{"a dot", attrs(".", "1"), badName(0)},
	{"two dots", attrs("..", "1"), badName(0)},
	{"a slash in a name", attrs("a/b", "1"), badName(0)},
	{"a name too long", attrs(tooLongName, "1"), badName(0)},
	{"a bad name in attribute 1", attrs("a", "1", "b c", "1"), badName(1)},
	{"a bad last name", append(full()[:5], api.Attr{Name: "l\x00", Value: "6"}), badName(5)},

	{"a value too long", attrs("a", tooLongValue), tooLarge(0)},
	{"a value far too long", attrs("a", strings.Repeat("v", 1<<20)), tooLarge(0)},
	{"a value too long in bytes but not in runes", attrs("a", strings.Repeat("\u00e9", 11)), tooLarge(0)},
	{"a value too long in attribute 2", attrs("a", "1", "b", "1", "c", tooLongValue), tooLarge(2)},
	{"the last value too long", append(full()[:5], api.Attr{Name: "l", Value: tooLongValue}), tooLarge(5)},

	{"an empty value", attrs("a", ""), malformed(0)},
	{"an empty value in attribute 1", attrs("a", "1", "b", ""), malformed(1)},
	{"an empty last value", append(full()[:5], api.Attr{Name: "l"}), malformed(5)},
	{"the same name twice", attrs("a", "1", "a", "2"), malformed(1)},
	{"the same attribute twice", attrs("a", "1", "a", "1"), malformed(1)},
	{"a smaller name", attrs("b", "1", "a", "1"), malformed(1)},
	{"a prefix after the longer name", attrs("aa", "1", "a", "1"), malformed(1)},
	{"an upper case letter after a lower case one", attrs("a", "1", "B", "1"), malformed(1)},
	{"names in the order of numbers", attrs("9", "1", "10", "1"), malformed(1)},
	{"an underscore after a lower case letter", attrs("a", "1", "_", "1"), malformed(1)},
	{"a dot before a hyphen", attrs("a.", "1", "a-", "1"), malformed(1)},
	{"the last name equal to the first", attrs("a", "1", "b", "1", "c", "1", "a", "1"), malformed(3)},
	{"a name smaller than the preceding one only", attrs("a", "1", "d", "1", "c", "1"), malformed(2)},
	{"the last two of a full list equal", append(full()[:5], api.Attr{Name: "j", Value: "6"}), malformed(5)},

	{"too many, a bad name in attribute 0", append(attrs("", "1"), full()...), tooMany},
	{"too many, an empty value in attribute 3", slices.Insert(full(), 3, api.Attr{Name: "g"}), tooMany},
	{"too many, the last value too long", append(full(), api.Attr{Name: "n", Value: tooLongValue}), tooMany},
	{"too many, all the same", slices.Repeat(attrs("a", "1"), 7), tooMany},
	{"a bad name, a value too long", attrs("/", tooLongValue), badName(0)},
	{"a bad name, an empty value", attrs("/", ""), badName(0)},
	{"nothing at all", list{{}}, badName(0)},
	{"a bad name smaller than the preceding one", attrs("b", "1", "a b", "1"), badName(1)},
	{"a bad name equal to the preceding bad one", attrs("a b", "1", "a b", "1"), badName(0)},
	{"a value too long, a smaller name", attrs("b", "1", "a", tooLongValue), tooLarge(1)},
	{"an empty value, a smaller name", attrs("b", "1", "a", ""), malformed(1)},
	{"a value too long, then a bad name", attrs("a", tooLongValue, "/", "1"), tooLarge(0)},
	{"an empty value, then a bad name", attrs("a", "", "/", "1"), malformed(0)},
	{"an empty value, then a value too long", attrs("a", "", "b", tooLongValue), malformed(0)},
	{"a smaller name, then a bad name", attrs("b", "1", "a", "1", "/", "1"), malformed(1)},
	{"a bad name, then an empty value", attrs("/", "1", "b", ""), badName(0)},
	{"bad names in attributes 1 and 3", attrs("a", "1", "/", "1", "c", "1", "/", "1"), badName(1)},
}

// TestInvalidLists checks the errors of R3.1 and their order, and that Get and
// Set have the same ones, before their own.
func TestInvalidLists(t *testing.T) {
	for _, c := range invalidLists {
		if fault := xattr.Validate(c.l); fault != c.fault {
			t.Errorf("%s: Validate = %v, want %v", c.about, fault, c.fault)
		}
		for _, name := range []string{"a", "b", "zz", "", "/"} {
			if value, fault := xattr.Get(c.l, name); value != "" || fault != c.fault {
				t.Errorf("%s: Get of %q = %q, %v, want %v", c.about, name, value, fault, c.fault)
			}
		}
		for _, a := range attrs("a", "1", "a", "", "b", "2", "zz", "1", "/", "1", "a", tooLongValue) {
			if l, fault := xattr.Set(c.l, a); len(l) != 0 || fault != c.fault {
				t.Errorf("%s: Set of %q = %q, %v, want %v", c.about, a, l, fault, c.fault)
			}
		}
	}
}

// TestInvalidListNumber checks the errors of the lists in R3.4 and R3.5: the
// first invalid list is reported, and the index is its number.
func TestInvalidListNumber(t *testing.T) {
	numbered := func(fault api.Fault, number int) api.Fault { return api.Fault{Code: fault.Code, Index: number} }
	for i, c := range invalidLists {
		other := invalidLists[(i+1)%len(invalidLists)].l
		for _, good := range []list{nil, full()} {
			for number, lists := range [][2]list{{c.l, good}, {good, c.l}} {
				checkDiffFault(t, c.about, lists, numbered(c.fault, number))
			}
			for number, lists := range [][3]list{{c.l, good, good}, {good, c.l, good}, {good, good, c.l}} {
				checkMergeFault(t, c.about, lists, numbered(c.fault, number))
			}
			checkMergeFault(t, c.about, [3]list{c.l, good, other}, numbered(c.fault, 0))
			checkMergeFault(t, c.about, [3]list{good, c.l, other}, numbered(c.fault, 1))
		}
		checkDiffFault(t, c.about, [2]list{c.l, other}, numbered(c.fault, 0))
		checkMergeFault(t, c.about, [3]list{c.l, other, other}, numbered(c.fault, 0))
	}
}

func checkDiffFault(t *testing.T, about string, l [2]list, want api.Fault) {
	t.Helper()
	if changes, fault := xattr.Diff(l[0], l[1]); len(changes) != 0 || fault != want {
		t.Errorf("%s: Diff(%.200q) = %q, %v, want %v", about, l, changes, fault, want)
	}
}

func checkMergeFault(t *testing.T, about string, l [3]list, want api.Fault) {
	t.Helper()
	merged, conflicts, fault := xattr.Merge(l[0], l[1], l[2])
	if len(merged) != 0 || len(conflicts) != 0 || fault != want {
		t.Errorf("%s: Merge(%.200q) = %q, %q, %v, want %v", about, l, merged, conflicts, fault, want)
	}
}

// TestGet checks R3.2.
func TestGet(t *testing.T) {
	cases := []struct {
		l          list
		name, want string
		fault      api.Fault
	}{
		{attrs("a", "1"), "a", "1", success},
		{attrs("a", "1", "b", "2", "c", "3"), "a", "1", success},
		{attrs("a", "1", "b", "2", "c", "3"), "b", "2", success},
		{attrs("a", "1", "b", "2", "c", "3"), "c", "3", success},
		{full(), "b", "1", success},
		{full(), "h", "4", success},
		{full(), "l", "6", success},
		{attrs("a", longValue), "a", longValue, success},
		{attrs(longName, "\x00\xff"), longName, "\x00\xff", success},
		{attrs("A", "1", "a", "2"), "a", "2", success},
		{attrs("a", "1", "aa", "2"), "aa", "2", success},

		{nil, "a", "", notFound},
		{list{}, "a", "", notFound},
		{attrs("a", "1"), "b", "", notFound},
		{attrs("b", "1"), "a", "", notFound},
		{attrs("a", "1"), "A", "", notFound},
		{attrs("a", "1"), "aa", "", notFound},
		{attrs("aa", "1"), "a", "", notFound},
		{attrs("a", "1"), "1", "", notFound},
		{full(), "a", "", notFound},
		{full(), "g", "", notFound},
		{full(), "m", "", notFound},
	}
	for _, c := range cases {
		if value, fault := xattr.Get(c.l, c.name); value != c.want || fault != c.fault {
			t.Errorf("Get(%q, %q) = %q, %v, want %q, %v", c.l, c.name, value, fault, c.want, c.fault)
		}
	}
}

// TestGetNotAName checks R3.2 for strings that are not a name, and so are
// absent: Get has no error for them beside ErrNotFound.
func TestGetNotAName(t *testing.T) {
	for _, l := range []list{nil, full()} {
		for _, name := range notNames {
			if value, fault := xattr.Get(l, name); value != "" || fault != notFound {
				t.Errorf("Get(%q, %q) = %q, %v", l, name, value, fault)
			}
		}
	}
}

// TestSet checks R3.3.
func TestSet(t *testing.T) {
	three := attrs("b", "1", "d", "2", "f", "3")
	cases := []struct {
		about       string
		l           list
		name, value string
		want        list
	}{
		{"remove the only attribute", attrs("a", "1"), "a", "", nil},
		{"add to no attributes", nil, "b", "2", attrs("b", "2")},
		{"remove from no attributes", nil, "a", "", nil},
		{"add before all", three, "a", "x", attrs("a", "x", "b", "1", "d", "2", "f", "3")},
		{"add between", three, "c", "x", attrs("b", "1", "c", "x", "d", "2", "f", "3")},
		{"add between the last ones", three, "e", "x", attrs("b", "1", "d", "2", "e", "x", "f", "3")},
		{"add after all", three, "g", "x", attrs("b", "1", "d", "2", "f", "3", "g", "x")},
		{"replace the first", three, "b", "x", attrs("b", "x", "d", "2", "f", "3")},
		{"replace one between", three, "d", "x", attrs("b", "1", "d", "x", "f", "3")},
		{"replace the last", three, "f", "x", attrs("b", "1", "d", "2", "f", "x")},
		{"replace by the same", three, "d", "2", three},
		{"remove the first", three, "b", "", attrs("d", "2", "f", "3")},
		{"remove one between", three, "d", "", attrs("b", "1", "f", "3")},
		{"remove the last", three, "f", "", attrs("b", "1", "d", "2")},
		{"remove an absent one before all", three, "a", "", three},
		{"remove an absent one between", three, "e", "", three},
		{"remove an absent one after all", three, "g", "", three},
		{"add another case", three, "B", "x", attrs("B", "x", "b", "1", "d", "2", "f", "3")},
		{"add a longer name", three, "b.", "x", attrs("b", "1", "b.", "x", "d", "2", "f", "3")},
		{"remove a longer name", three, "bb", "", three},
		{"the longest name and value", three, longName, longValue, append(three[:3:3], api.Attr{Name: longName, Value: longValue})},
		{"a value that is not text", nil, "a", "\x00\xff", attrs("a", "\x00\xff")},

		{"add the last possible", full()[:5], "l", "6", full()},
		{"add the last possible before all", full()[1:], "b", "1", full()},
		{"replace in a full list", full(), "f", "x", attrs("b", "1", "d", "2", "f", "x", "h", "4", "j", "5", "l", "6")},
		{"replace the last in a full list", full(), "l", longValue, append(full()[:5], api.Attr{Name: "l", Value: longValue})},
		{"remove from a full list", full(), "b", "", full()[1:]},
		{"remove an absent one from a full list", full(), "a", "", full()},
		{"remove an absent one behind a full list", full(), "z", "", full()},
	}
	for _, c := range cases {
		l, fault := xattr.Set(c.l, api.Attr{Name: c.name, Value: c.value})
		if !slices.Equal(l, c.want) || fault != success {
			t.Errorf("%s: Set = %q, %v, want %q", c.about, l, fault, c.want)
		}
	}
}

// TestSetErrors checks the errors of R3.3 beside those of the list, and their
// order.
func TestSetErrors(t *testing.T) {
	cases := []struct {
		about       string
		l           list
		name, value string
		fault       api.Fault
	}{
		{"a bad name", nil, "/", "2", badName(-1)},
		{"a bad name, removed", attrs("a", "1"), "a/b", "", badName(-1)},
		{"a value too long", nil, "a", tooLongValue, tooLarge(-1)},
		{"a value too long for a present name", attrs("a", "1"), "a", tooLongValue, tooLarge(-1)},
		{"a value too long in bytes but not in runes", nil, "a", strings.Repeat("\u00e9", 11), tooLarge(-1)},
		{"a value far too long", nil, "a", strings.Repeat("v", 1<<20), tooLarge(-1)},
		{"one too many before all", full(), "a", "1", noSpace},
		{"one too many between", full(), "g", "1", noSpace},
		{"one too many after all", full(), "m", "1", noSpace},

		{"a bad name, a value too long", nil, "..", tooLongValue, badName(-1)},
		{"a bad name, one too many", full(), "a b", "1", badName(-1)},
		{"a value too long, one too many", full(), "a", tooLongValue, tooLarge(-1)},
		{"a bad name, a value too long, one too many", full(), "", tooLongValue, badName(-1)},
	}
	for _, c := range cases {
		l, fault := xattr.Set(c.l, api.Attr{Name: c.name, Value: c.value})
		if len(l) != 0 || fault != c.fault {
			t.Errorf("%s: Set = %q, %v, want %v", c.about, l, fault, c.fault)
		}
	}
	for _, name := range notNames {
		for _, value := range []string{"", "1", tooLongValue} {
			l, fault := xattr.Set(full(), api.Attr{Name: name, Value: value})
			if len(l) != 0 || fault != badName(-1) {
				t.Errorf("Set of %q, %q = %q, %v", name, value, l, fault)
			}
		}
	}
}

// TestDiff checks R3.4.
func TestDiff(t *testing.T) {
	removed := attrs("b", "", "d", "", "f", "", "h", "", "j", "", "l", "")
	others := attrs("a", "1", "c", "2", "e", "3", "g", "4", "i", "5", "k", "6")
	cases := []struct {
		about      string
		a, b, want list
	}{
		{"the document's example", attrs("a", "1"), attrs("b", "2"), attrs("a", "", "b", "2")},
		{"no attributes", nil, list{}, nil},
		{"equal lists", full(), full(), nil},
		{"a is empty", nil, full(), full()},
		{"b is empty", full(), nil, removed},
		{"one added", attrs("b", "1"), attrs("a", "2", "b", "1"), attrs("a", "2")},
		{"one added behind", attrs("b", "1"), attrs("b", "1", "c", "2"), attrs("c", "2")},
		{"one removed", attrs("a", "2", "b", "1"), attrs("b", "1"), attrs("a", "")},
		{"one removed behind", attrs("b", "1", "c", "2"), attrs("b", "1"), attrs("c", "")},
		{"one changed", attrs("a", "1", "b", "2"), attrs("a", "1", "b", "3"), attrs("b", "3")},
		{"the same value of another name", attrs("a", "1"), attrs("A", "1"), attrs("A", "1", "a", "")},
		{"two values exchanged", attrs("a", "1", "b", "2"), attrs("a", "2", "b", "1"), attrs("a", "2", "b", "1")},
		{"all three at once", attrs("a", "1", "c", "3", "d", "4"), attrs("b", "2", "c", "x", "d", "4"), attrs("a", "", "b", "2", "c", "x")},
		{"sorted bytewise", attrs("_", "1", "b", "1"), attrs("-", "1", "B", "1", "a", "1"), attrs("-", "1", "B", "1", "_", "", "a", "1", "b", "")},
		{"more changes than a list may hold", full(), others, attrs("a", "1", "b", "", "c", "2", "d", "", "e", "3", "f", "", "g", "4", "h", "", "i", "5", "j", "", "k", "6", "l", "")},
	}
	for _, c := range cases {
		if got, fault := xattr.Diff(c.a, c.b); !slices.Equal(got, c.want) || fault != success {
			t.Errorf("%s: Diff = %q, %v, want %q", c.about, got, fault, c.want)
		}
	}
}

// TestMergeOneName checks R3.5 for all cases of one name, whose empty value
// stands for its absence.
func TestMergeOneName(t *testing.T) {
	cases := []struct {
		base, a, b, want string
		conflict         bool
	}{
		{"1", "2", "3", "2", true},
		{"1", "1", "1", "1", false},
		{"1", "2", "1", "2", false},
		{"1", "1", "2", "2", false},
		{"1", "2", "2", "2", false},

		{"", "2", "", "2", false},
		{"", "", "2", "2", false},
		{"", "2", "2", "2", false},
		{"", "2", "3", "2", true},

		{"1", "", "1", "", false},
		{"1", "1", "", "", false},
		{"1", "", "", "", false},
		{"1", "", "2", "", true},
		{"1", "2", "", "2", true},
	}
	for _, c := range cases {
		merged, conflicts, fault := xattr.Merge(only(c.base), only(c.a), only(c.b))
		if !slices.Equal(merged, only(c.want)) || len(conflicts) == 1 != c.conflict || fault != success {
			t.Errorf("base %q, a %q, b %q: Merge = %q, %q, %v", c.base, c.a, c.b, merged, conflicts, fault)
		}
		if c.conflict && !slices.Equal(conflicts, []string{"k"}) {
			t.Errorf("base %q, a %q, b %q: conflicts %q", c.base, c.a, c.b, conflicts)
		}
	}
}

// only returns the list in which k has a value and every other name is absent.
func only(value string) list {
	if value == "" {
		return nil
	}
	return attrs("k", value)
}

// TestMerge checks R3.5 for several names.
func TestMerge(t *testing.T) {
	none := []string(nil)
	cases := []struct {
		about            string
		base, a, b, want list
		conflicts        []string
	}{
		{"no attributes", nil, nil, nil, nil, none},
		{"base only", full(), nil, nil, nil, none},
		{"a only", nil, full(), nil, full(), none},
		{"b only", nil, nil, full(), full(), none},
		{"base is empty", nil, attrs("a", "1", "c", "3"), attrs("b", "2", "c", "3"), attrs("a", "1", "b", "2", "c", "3"), none},
		{"a is empty", attrs("a", "1", "b", "2"), nil, attrs("a", "1", "b", "x", "c", "3"), attrs("c", "3"), []string{"b"}},
		{"b is empty", attrs("a", "1", "b", "2"), attrs("a", "1", "b", "x", "c", "3"), nil, attrs("b", "x", "c", "3"), []string{"b"}},
		{"nothing changed", full(), full(), full(), full(), none},
		{"only a changed", full(), attrs("a", "1", "d", "x"), full(), attrs("a", "1", "d", "x"), none},
		{"only b changed", full(), full(), attrs("a", "1", "d", "x"), attrs("a", "1", "d", "x"), none},
		{"different names changed", attrs("a", "1", "b", "1", "c", "1"), attrs("a", "2", "b", "1", "c", "1"), attrs("a", "1", "b", "2"), attrs("a", "2", "b", "2"), none},
		{"conflicts sorted bytewise", attrs("B", "1", "_", "1", "a", "1"), attrs("-", "2", "B", "2", "_", "2"), attrs("-", "3", "B", "3", "a", "3"), attrs("-", "2", "B", "2", "_", "2"), []string{"-", "B", "_", "a"}},
		{"names of all lists in turn", attrs("b", "1", "e", "1"), attrs("a", "1", "d", "1", "e", "1"), attrs("b", "1", "c", "1", "e", "1", "f", "1"), attrs("a", "1", "c", "1", "d", "1", "e", "1", "f", "1"), none},
	}
	for _, c := range cases {
		merged, conflicts, fault := xattr.Merge(c.base, c.a, c.b)
		if !slices.Equal(merged, c.want) || !slices.Equal(conflicts, c.conflicts) || fault != success {
			t.Errorf("%s: Merge = %q, %q, %v, want %q, %q", c.about, merged, conflicts, fault, c.want, c.conflicts)
		}
	}
}

// TestMergeSpace checks the limit of R3.5: it is the result's, not that of the
// names that occur.
func TestMergeSpace(t *testing.T) {
	others := attrs("a", "1", "c", "2", "e", "3", "g", "4", "i", "5", "k", "6")
	changed := slices.Clone(full())
	for i := range changed {
		changed[i].Value = "x"
	}
	cases := []struct {
		about      string
		base, a, b list
		want       list
		fault      api.Fault
	}{
		{"a replaces all", full(), others, full(), others, success},
		{"b replaces all", full(), full(), others, others, success},
		{"three and three", nil, full()[:3], full()[3:], full(), success},
		{"five and the same five", nil, full()[:5], full()[:5], full()[:5], success},
		{"six and a part of them", nil, full(), full()[2:4], full(), success},
		{"six and six names, those of base removed by b", others, others, full(), full(), success},

		{"six and one", nil, full(), attrs("a", "1"), nil, noSpace},
		{"one and six", nil, attrs("z", "1"), full(), nil, noSpace},
		{"three and four", nil, full()[:3], others[2:], nil, noSpace},
		{"six and six", nil, full(), others, nil, noSpace},
		{"both replace all, otherwise", attrs("z", "1"), full(), others, nil, noSpace},
		{"one too many, and conflicts", full()[:5], changed[:5], append(slices.Clone(others[:2]), changed[5]), nil, noSpace},
		{"conflicts of all, and one too many", full(), changed, append(others[:1:1], full()[:5]...), nil, noSpace},
	}
	for _, c := range cases {
		merged, conflicts, fault := xattr.Merge(c.base, c.a, c.b)
		if !slices.Equal(merged, c.want) || len(conflicts) != 0 || fault != c.fault {
			t.Errorf("%s: Merge = %q, %q, %v, want %q, %v", c.about, merged, conflicts, fault, c.want, c.fault)
		}
	}
}
