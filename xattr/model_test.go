package xattr_test

import (
	"maps"
	"math/rand/v2"
	"regexp"
	"slices"
	"testing"

	"farshelf/api"
	"farshelf/xattr"
)

// The models follow the definitions of the document in another way than the
// package: a list is a map from names to values, in which an absent name has
// the empty value.

type values = map[string]string

func mapOf(l list) values {
	m := values{}
	for _, a := range l {
		m[a.Name] = a.Value
	}
	return m
}

// listOf returns the attributes of m that are not absent.
func listOf(m values) list {
	var l list
	for _, name := range slices.Sorted(maps.Keys(m)) {
		if m[name] != "" {
			l = append(l, api.Attr{Name: name, Value: m[name]})
		}
	}
	return l
}

var namePattern = regexp.MustCompile(`\A[A-Za-z0-9._-]{1,12}\z`)

func modelIsName(name string) bool {
	return namePattern.MatchString(name) && name != "." && name != ".."
}

func modelValidate(l list) api.Fault {
	if len(l) > 6 {
		return tooMany
	}
	for i, a := range l {
		switch {
		case !modelIsName(a.Name):
			return badName(i)
		case len(a.Value) > 20:
			return tooLarge(i)
		case len(a.Value) == 0, i > 0 && a.Name <= l[i-1].Name:
			return malformed(i)
		}
	}
	return success
}

func modelGet(l list, name string) (string, api.Fault) {
	if fault := modelValidate(l); fault != success {
		return "", fault
	}
	if value, ok := mapOf(l)[name]; ok {
		return value, success
	}
	return "", notFound
}

func modelSet(l list, a api.Attr) (list, api.Fault) {
	if fault := modelValidate(l); fault != success {
		return nil, fault
	}
	switch {
	case !modelIsName(a.Name):
		return nil, badName(-1)
	case len(a.Value) > 20:
		return nil, tooLarge(-1)
	}
	m := mapOf(l)
	m[a.Name] = a.Value
	if result := listOf(m); len(result) <= 6 {
		return result, success
	}
	return nil, noSpace
}

func modelDiff(a, b list) (list, api.Fault) {
	for i, l := range []list{a, b} {
		if fault := modelValidate(l); fault != success {
			return nil, api.Fault{Code: fault.Code, Index: i}
		}
	}
	old, changed := mapOf(a), mapOf(b)
	for name := range old {
		changed[name] += ""
	}
	var changes list
	for _, name := range slices.Sorted(maps.Keys(changed)) {
		if old[name] != changed[name] {
			changes = append(changes, api.Attr{Name: name, Value: changed[name]})
		}
	}
	return changes, success
}

func modelMerge(base, a, b list) (list, []string, api.Fault) {
	names := values{}
	for i, l := range []list{base, a, b} {
		if fault := modelValidate(l); fault != success {
			return nil, nil, api.Fault{Code: fault.Code, Index: i}
		}
		maps.Copy(names, mapOf(l))
	}
	old, ours, theirs := mapOf(base), mapOf(a), mapOf(b)
	var conflicts []string
	for name := range names {
		// The number of different values tells who changed what.
		different := values{old[name]: "", ours[name]: "", theirs[name]: ""}
		if len(different) == 3 {
			conflicts = append(conflicts, name)
		}
		if len(different) == 2 && ours[name] == old[name] {
			ours[name] = theirs[name]
		}
	}
	slices.Sort(conflicts)
	if result := listOf(ours); len(result) <= 6 {
		return result, conflicts, success
	}
	return nil, nil, noSpace
}

// compareSingle compares the functions of one list with the models.
func compareSingle(t *testing.T, l list, a api.Attr) {
	t.Helper()
	if fault, want := xattr.Validate(l), modelValidate(l); fault != want {
		t.Errorf("Validate(%q) = %v, want %v", l, fault, want)
	}
	value, fault := xattr.Get(l, a.Name)
	if want, wantFault := modelGet(l, a.Name); value != want || fault != wantFault {
		t.Errorf("Get(%q, %q) = %q, %v, want %q, %v", l, a.Name, value, fault, want, wantFault)
	}
	set, fault := xattr.Set(l, a)
	if want, wantFault := modelSet(l, a); !slices.Equal(set, want) || fault != wantFault {
		t.Errorf("Set(%q, %q) = %q, %v, want %q, %v", l, a, set, fault, want, wantFault)
	}
}

// compareSeveral compares the functions of several lists with the models.
func compareSeveral(t *testing.T, base, a, b list) {
	t.Helper()
	changes, fault := xattr.Diff(a, b)
	if want, wantFault := modelDiff(a, b); !slices.Equal(changes, want) || fault != wantFault {
		t.Errorf("Diff(%q, %q) = %q, %v, want %q, %v", a, b, changes, fault, want, wantFault)
	}
	merged, conflicts, fault := xattr.Merge(base, a, b)
	want, wantConflicts, wantFault := modelMerge(base, a, b)
	if !slices.Equal(merged, want) || !slices.Equal(conflicts, wantConflicts) || fault != wantFault {
		t.Errorf("Merge(%q, %q, %q) = %q, %q, %v, want %q, %q, %v", base, a, b, merged, conflicts, fault, want, wantConflicts, wantFault)
	}
}

// lists returns all lists of at most n of the given attributes, in any order.
func lists(entries list, n int) []list {
	whole := []list{nil}
	for i := 0; len(whole[i]) < n; i++ {
		for _, a := range entries {
			whole = append(whole, append(slices.Clone(whole[i]), a))
		}
	}
	return whole
}

// critical are attributes with and without errors.
func critical() list {
	var entries list
	for _, name := range []string{"", "..", "-", "B", "a", "a.", longName, tooLongName} {
		for _, value := range []string{"", "1", longValue, tooLongValue} {
			entries = append(entries, api.Attr{Name: name, Value: value})
		}
	}
	return entries
}

// TestShortLists compares all short lists of critical attributes with the
// models, whatever is set in them.
func TestShortLists(t *testing.T) {
	for _, l := range lists(critical(), 2) {
		for _, a := range critical() {
			compareSingle(t, l, a)
		}
		compareSeveral(t, l, full(), l)
		compareSeveral(t, full(), l, nil)
		compareSeveral(t, nil, full(), l)
	}
}

// TestTwoNames compares all valid lists of two names and three values.
func TestTwoNames(t *testing.T) {
	var whole []list
	for _, first := range []string{"", "1", "2", "3"} {
		for _, second := range []string{"", "1", "2", "3"} {
			whole = append(whole, listOf(values{"a": first, "b": second}))
		}
	}
	for _, base := range whole {
		for _, a := range whole {
			for _, b := range whole {
				compareSeveral(t, base, a, b)
			}
		}
	}
}

// mixedLists returns long lists, the same ones in each run; about one in four
// is invalid if invalid is true.
func mixedLists(n int, invalid bool) []list {
	source := rand.New(rand.NewPCG(3, 1))
	names := []string{"-", ".x", "0", "B", "_", "a", "a.", "aa", "b"}
	whole := make([]list, n)
	for i := range whole {
		m := values{}
		for range source.IntN(10) {
			if len(m) < api.MaxAttrs {
				m[names[source.IntN(len(names))]] = []string{"1", "2", longValue}[source.IntN(3)]
			}
		}
		whole[i] = listOf(m)
		if invalid && source.IntN(4) == 0 {
			all := critical()
			whole[i] = slices.Insert(whole[i], source.IntN(len(whole[i])+1), all[source.IntN(len(all))])
		}
	}
	return whole
}

// TestMixedLists compares long lists with the models.
func TestMixedLists(t *testing.T) {
	whole := append(mixedLists(6000, false), mixedLists(6000, true)...)
	for i, l := range whole {
		second, third := whole[(i+1)%len(whole)], whole[(i+2)%len(whole)]
		compareSeveral(t, l, second, third)
		for _, a := range slices.Concat(l, second, attrs("c", "1", "a", "", "", "")) {
			compareSingle(t, l, a)
		}
	}
}

// TestDiffLeads checks what R3.4 is for: the changes, removals first, set one
// by one in a, give b.
func TestDiffLeads(t *testing.T) {
	whole := mixedLists(2000, false)
	for i, b := range whole {
		a := whole[(i+1)%len(whole)]
		changes, fault := xattr.Diff(a, b)
		slices.SortStableFunc(changes, func(x, y api.Attr) int { return min(1, len(x.Value)) - min(1, len(y.Value)) })
		got := a
		for _, change := range changes {
			if fault == success {
				got, fault = xattr.Set(got, change)
			}
		}
		if !slices.Equal(got, b) || fault != success {
			t.Errorf("Diff(%q, %q) = %q, which leads to %q, %v", a, b, changes, got, fault)
		}
	}
}

// TestMergeSides checks what R3.5 says of both sides: exchanged, they have the
// same conflicts, and without one the same result.
func TestMergeSides(t *testing.T) {
	whole := mixedLists(2000, false)
	for i, base := range whole {
		a, b := whole[(i+1)%len(whole)], whole[(i+2)%len(whole)]
		merged, conflicts, fault := xattr.Merge(base, a, b)
		other, otherConflicts, otherFault := xattr.Merge(base, b, a)
		if fault != success || otherFault != success {
			continue // a conflict may decide whether there is space
		}
		if !slices.Equal(conflicts, otherConflicts) || len(conflicts) == 0 && !slices.Equal(merged, other) {
			t.Errorf("base %q: Merge of %q and %q: %q, %q, and of b and a: %q, %q", base, a, b, merged, conflicts, other, otherConflicts)
		}
		if fault := xattr.Validate(merged); fault != success {
			t.Errorf("Merge(%q, %q, %q) = %q, which is %v", base, a, b, merged, fault)
		}
	}
}
