package xattr_test

import (
	"fmt"
	"slices"
	"strings"
	"sync"
	"testing"

	"farshelf/api"
	"farshelf/xattr"
)

// strangeTexts are strings that no caller should pass as a name or a value,
// among some that one may.
func strangeTexts() []string {
	return []string{
		"", "a", ".", "..", "...", "/", "\x00", "\xff\xfe", "a\xc3", "\xed\xa0\x80", "\u2028", "\u00e9", "\r\n", "%s", "~", "*",
		longName, tooLongName, longValue, tooLongValue, strings.Repeat("a", 1<<20), strings.Repeat("\xff", 1<<20), strings.Repeat("/", 1<<20),
	}
}

// describe returns the results of all functions, or the panic of one of them.
func describe(base, l list, a api.Attr) (text string) {
	defer func() {
		if e := recover(); e != nil {
			text = fmt.Sprint("panic: ", e)
		}
	}()
	f1 := xattr.Validate(l)
	value, f2 := xattr.Get(l, a.Name)
	set, f3 := xattr.Set(l, a)
	changes, f4 := xattr.Diff(base, l)
	merged, conflicts, f5 := xattr.Merge(base, l, list{a})
	other, otherConflicts, f6 := xattr.Merge(list{a}, l, base)
	return fmt.Sprintf("%v %q %v %q %v %q %v %q %q %v %q %q %v", f1, value, f2, set, f3, changes, f4, merged, conflicts, f5, other, otherConflicts, f6)
}

// TestTotality checks Z1: no argument makes a function panic.
func TestTotality(t *testing.T) {
	for _, name := range strangeTexts() {
		for _, value := range strangeTexts() {
			a := api.Attr{Name: name, Value: value}
			for _, l := range []list{nil, {a}, {a, a}, full(), append(full()[:5], a), append(full(), a)} {
				for _, base := range []list{nil, {a}, full()} {
					if text := describe(base, l, a); strings.HasPrefix(text, "panic") {
						t.Errorf("%.40q, %.40q: %s", name, value, text)
					}
				}
			}
		}
	}
	describe(make(list, 1<<20), make(list, 1<<20), api.Attr{})
	describe(full(), slices.Repeat(full(), 1<<17), full()[0])
}

// TestZeroResults checks Z2: with a fault, the other results are zero, and
// without one the fault has no index either.
func TestZeroResults(t *testing.T) {
	check := func(fault api.Fault, zero bool, call string) {
		t.Helper()
		if fault.Code != api.OK && !zero || fault.Code == api.OK && fault.Index != 0 {
			t.Errorf("%s with %v", call, fault)
		}
	}
	whole := append(mixedLists(3000, true), lists(critical(), 1)...)
	for i, l := range whole {
		other, third := whole[(i+1)%len(whole)], whole[(i+2)%len(whole)]
		for _, a := range attrs("a", "1", "a", "", "c", "1", "", "1", "b", tooLongValue) {
			value, fault := xattr.Get(l, a.Name)
			check(fault, value == "", "Get")
			set, fault := xattr.Set(l, a)
			check(fault, len(set) == 0, "Set")
		}
		changes, fault := xattr.Diff(l, other)
		check(fault, len(changes) == 0, "Diff")
		merged, conflicts, fault := xattr.Merge(l, other, third)
		check(fault, len(merged) == 0 && len(conflicts) == 0, "Merge")
		check(xattr.Validate(l), true, "Validate")
	}
}

// TestArgumentsStay checks Z4: neither a list nor its spare capacity is
// modified.
func TestArgumentsStay(t *testing.T) {
	whole := append(mixedLists(1000, true), full(), full()[:5], attrs("b", "1"), nil)
	for i, l := range whole {
		spare := attrs("a", "spare", "", "room", "z", "")
		first := slices.Concat(l, spare)
		second := slices.Concat(whole[(i+1)%len(whole)], spare)
		before, secondBefore := slices.Clone(first), slices.Clone(second)
		for _, a := range attrs("a", "1", "a", "", "b", "2", "b", "", "zz", "1", "/", "1") {
			describe(second[:len(second)-3], first[:len(l)], a)
			describe(first[:len(l)], second[:len(second)-3], a)
		}
		if !slices.Equal(first, before) || !slices.Equal(second, secondBefore) {
			t.Errorf("%q and %q became %q and %q", before, secondBefore, first, second)
		}
	}
}

// spoil changes the attributes of a list and its spare capacity.
func spoil(l list) {
	for i := range l[:cap(l)] {
		l[:cap(l)][i] = api.Attr{Name: "spoilt", Value: "spoilt"}
	}
}

// TestResultsAreSeparate checks Z4: a caller that changes a result changes
// neither an argument nor another result, and the reverse.
func TestResultsAreSeparate(t *testing.T) {
	three := attrs("b", "1", "d", "2", "f", "3")
	calls := []struct {
		about string
		call  func(l list) list
	}{
		{"Set adds", func(l list) list { l, _ = xattr.Set(l, api.Attr{Name: "c", Value: "x"}); return l }},
		{"Set adds behind", func(l list) list { l, _ = xattr.Set(l, api.Attr{Name: "g", Value: "x"}); return l }},
		{"Set replaces", func(l list) list { l, _ = xattr.Set(l, api.Attr{Name: "d", Value: "x"}); return l }},
		{"Set replaces by the same", func(l list) list { l, _ = xattr.Set(l, api.Attr{Name: "d", Value: "2"}); return l }},
		{"Set removes", func(l list) list { l, _ = xattr.Set(l, api.Attr{Name: "b"}); return l }},
		{"Set removes the last", func(l list) list { l, _ = xattr.Set(l, api.Attr{Name: "f"}); return l }},
		{"Set removes an absent one", func(l list) list { l, _ = xattr.Set(l, api.Attr{Name: "a"}); return l }},
		{"Diff from nothing", func(l list) list { l, _ = xattr.Diff(nil, l); return l }},
		{"Diff to nothing", func(l list) list { l, _ = xattr.Diff(l, nil); return l }},
		{"Merge of all the same", func(l list) list { l, _, _ = xattr.Merge(l, l, l); return l }},
		{"Merge of a", func(l list) list { l, _, _ = xattr.Merge(nil, l, nil); return l }},
		{"Merge of b", func(l list) list { l, _, _ = xattr.Merge(nil, nil, l); return l }},
	}
	for _, c := range calls {
		argument := slices.Concat(three, attrs("spare", "1"))[:3]
		want := slices.Clone(c.call(three))
		first := c.call(argument)
		second := c.call(argument)
		if len(want) == 0 || !slices.Equal(first, want) {
			t.Errorf("%s: %q, want %q", c.about, first, want)
		}
		spoil(first)
		if !slices.Equal(argument[:4], slices.Concat(three, attrs("spare", "1"))) || !slices.Equal(second, want) {
			t.Errorf("%s: after a change of a result the argument is %q and another result %q", c.about, argument[:4], second)
		}
		spoil(argument)
		if !slices.Equal(second, want) {
			t.Errorf("%s: after a change of the argument the result is %q", c.about, second)
		}
	}
}

// TestConflictsAreSeparate checks Z4 for the second result of Merge.
func TestConflictsAreSeparate(t *testing.T) {
	want := []string{"a", "b"}
	merge := func() []string {
		_, conflicts, _ := xattr.Merge(nil, attrs("a", "1", "b", "1"), attrs("a", "2", "b", "2"))
		return conflicts
	}
	first, second := merge(), merge()
	for i := range first[:cap(first)] {
		first[:cap(first)][i] = "spoilt"
	}
	if third := merge(); !slices.Equal(second, want) || !slices.Equal(third, want) {
		t.Errorf("conflicts are %q and %q after a change of the first", second, third)
	}
}

// TestDeterminism checks Z5: a call returns the same whatever was called
// before it or is called at the same time.
func TestDeterminism(t *testing.T) {
	whole := mixedLists(400, true)
	call := func(i int) string {
		return describe(whole[(i+1)%len(whole)], whole[i], api.Attr{Name: "b", Value: "x"})
	}
	want := make([]string, len(whole))
	for i := range whole {
		want[i] = call(i)
	}
	var group sync.WaitGroup
	for worker := range 4 {
		group.Go(func() {
			for k := range whole {
				i := (len(whole) - k + worker*7) % len(whole)
				if got := call(i); got != want[i] {
					t.Errorf("%q: %s, then %s", whole[i], want[i], got)
				}
			}
		})
	}
	group.Wait()
}

// TestEmptyLists checks Z6: nil and empty lists are equivalent.
func TestEmptyLists(t *testing.T) {
	for _, a := range attrs("b", "1", "b", "", "", "1") {
		for _, empty := range []list{{}, make(list, 0, 8), full()[:0]} {
			for _, l := range []list{nil, full()} {
				if got, want := describe(empty, l, a), describe(nil, l, a); got != want {
					t.Errorf("an empty base, %q, %q: %s, want %s", l, a, got, want)
				}
				if got, want := describe(l, empty, a), describe(l, nil, a); got != want {
					t.Errorf("%q, an empty list, %q: %s, want %s", l, a, got, want)
				}
			}
		}
	}
}
