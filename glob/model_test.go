package glob_test

import (
	"math/rand/v2"
	"regexp"
	"slices"
	"strings"
	"testing"

	"farshelf/api"
	"farshelf/fstree"
	"farshelf/glob"
)

// The models follow the definitions of the document in another way than the
// package: they translate patterns to regular expressions.

// runes returns a text with a rune for each byte of text.
func runes(text string) string {
	var all []rune
	for _, b := range []byte(text) {
		all = append(all, rune(b))
	}
	return string(all)
}

// translated returns the regular expression of a pattern, in which "*" and "?"
// match what the expression any matches.
func translated(pattern, any string) string {
	var all strings.Builder
	for _, c := range runes(pattern) {
		switch c {
		case '*':
			all.WriteString(any + "*")
		case '?':
			all.WriteString(any)
		default:
			all.WriteString(regexp.QuoteMeta(string(c)))
		}
	}
	return all.String()
}

// matchModel returns a model of Match for one pattern.
func matchModel(pattern string) func(text string) (bool, api.Fault) {
	if len(pattern) > 100 {
		return func(string) (bool, api.Fault) { return false, fault(api.ErrTooMany, 0) }
	}
	expression := regexp.MustCompile(`(?s)\A` + translated(pattern, ".") + `\z`)
	return func(text string) (bool, api.Fault) {
		if len(text) > 100 {
			return false, fault(api.ErrTooMany, 1)
		}
		return expression.MatchString(runes(text)), success
	}
}

// pathExpression returns the regular expression of a path pattern. The path of
// the root is "" there.
func pathExpression(pattern string) *regexp.Regexp {
	all := `\A`
	for _, element := range strings.Split(pattern, "/") {
		switch element {
		case "":
		case "**":
			all += `(/[^/]+)*`
		default:
			all += "/" + translated(element, "[^/]")
		}
	}
	return regexp.MustCompile(all + `\z`)
}

func modelFind(t api.Tree, pattern string) ([]string, api.Fault) {
	paths, got := fstree.AllPaths(t)
	switch {
	case got != success:
		return nil, got
	case len(pattern) > 100:
		return nil, fault(api.ErrTooMany, -1)
	case pattern == "" || pattern[0] != '/':
		return nil, fault(api.ErrMalformed, -1)
	}
	expression := pathExpression(pattern)
	var found []string
	for _, p := range paths {
		if expression.MatchString(strings.TrimSuffix(p, "/")) {
			found = append(found, p)
		}
	}
	return found, success
}

// compareMatch compares Match with the model for one pattern and many texts,
// and returns how many of them match.
func compareMatch(t *testing.T, pattern string, texts []string) int {
	t.Helper()
	model := matchModel(pattern)
	matching := 0
	for _, text := range texts {
		want, wantFault := model(text)
		if ok, got := glob.Match(pattern, text); ok != want || got != wantFault {
			t.Errorf("Match(%q, %q) = %v, %v, want %v, %v", pattern, text, ok, got, want, wantFault)
		}
		if want {
			matching++
		}
	}
	return matching
}

// texts returns all strings of at most n elements of the alphabet.
func texts(n int, alphabet ...string) []string {
	all := []string{""}
	last := all
	for range n {
		var next []string
		for _, head := range last {
			for _, tail := range alphabet {
				next = append(next, head+tail)
			}
		}
		all = append(all, next...)
		last = next
	}
	return all
}

// TestBytes compares all pairs of bytes, alone and between others.
func TestBytes(t *testing.T) {
	var single, between []string
	for b := range 256 {
		single = append(single, string([]byte{byte(b)}))
		between = append(between, string([]byte{'a', byte(b), 'c'}))
	}
	for b := range 256 {
		compareMatch(t, single[b], single)
		compareMatch(t, between[b], between)
		compareMatch(t, "*"+single[b], between)
		compareMatch(t, "a*"+single[b]+"*", between)
	}
}

// TestShortTexts compares all short patterns and texts of critical bytes with
// the model.
func TestShortTexts(t *testing.T) {
	matching := 0
	plain := texts(6, "a", "b")
	for _, pattern := range texts(6, "*", "?", "a", "b") {
		matching += compareMatch(t, pattern, plain)
	}
	strange := texts(4, "*", "?", "/", "\xff", "\u00e9")
	for _, pattern := range texts(4, "*", "?", "/", "\xff", "\xa9") {
		matching += compareMatch(t, pattern, strange)
	}
	if matching < 10000 {
		t.Errorf("only %d pairs match", matching)
	}
}

// blurred returns a pattern made from text: its bytes, some of them changed to
// "?", and some sequences of them, also empty ones, to "*".
func blurred(source *rand.Rand, text string) string {
	var all strings.Builder
	for i := 0; i < len(text); {
		switch source.IntN(8) {
		case 0, 1:
			all.WriteByte('*')
			i += source.IntN(6)
		case 2:
			all.WriteByte('?')
			i++
		default:
			all.WriteByte(text[i])
			i++
		}
	}
	return all.String()
}

// TestLongTexts compares long patterns and texts of few letters, many of which
// match, with the model, up to the limits and beyond them.
func TestLongTexts(t *testing.T) {
	source := rand.New(rand.NewPCG(6, 1))
	matching := 0
	for range 20000 {
		letters := "aaaaaaab\xff"[source.IntN(6):]
		text := make([]byte, source.IntN(104))
		for i := range text {
			text[i] = letters[source.IntN(len(letters))]
		}
		pattern := blurred(source, string(text))
		// An end that often does not fit makes the stars try all they can.
		changed := pattern[:len(pattern)*source.IntN(5)/4] + []string{"", "a", "b", "?", "*"}[source.IntN(5)]
		matching += compareMatch(t, pattern, []string{string(text)})
		matching += compareMatch(t, changed, []string{string(text)})
	}
	if matching < 10000 || matching > 30000 {
		t.Errorf("%d of 40000 pairs match", matching)
	}
}

// TestLimits compares patterns and texts of all lengths around the limit.
func TestLimits(t *testing.T) {
	for m := 95; m < 106; m++ {
		for n := 95; n < 106; n++ {
			for _, unit := range []string{"a", "*", "?"} {
				compareMatch(t, strings.Repeat(unit, m), []string{"", "a", strings.Repeat("a", n), strings.Repeat("b", n)})
			}
			compareMatch(t, "*", []string{strings.Repeat("a", n)})
		}
	}
}

// names are names for the entries of random trees.
var names = []string{"a", "b", "c", "ab", "ba", "aa", "a-", "a.b", "-", "A", "...", longName}

// grownTree returns a valid tree of directories and files with several names
// that grew by chance; some inodes are free.
func grownTree(source *rand.Rand) api.Tree {
	t := tree(dir())
	few := 1 + source.IntN(len(names))
	for range source.IntN(60) {
		parent := max(source.IntN(len(t.Inodes)), len(t.Inodes)-1-source.IntN(4))
		if t.Inodes[parent].Kind != api.KindDir {
			parent = 0
		}
		next := cloneTree(t)
		number := len(t.Inodes)
		switch source.IntN(5) {
		case 0:
			next.Inodes = append(next.Inodes, api.Inode{})
			number = -1 // no entry
		case 1:
			next.Inodes = append(next.Inodes, file(1))
		case 2:
			number = source.IntN(len(t.Inodes))
		default:
			next.Inodes = append(next.Inodes, dir())
		}
		if number >= 0 {
			add(&next, parent, names[source.IntN(few)], number)
		}
		// A wrong step, such as another name for a directory, is left out.
		if fstree.Validate(next) == success {
			t = next
		}
	}
	return t
}

// grownPattern returns a path pattern, often one that matches a path of t.
func grownPattern(source *rand.Rand, t api.Tree) string {
	paths, _ := fstree.AllPaths(t)
	elements := strings.Split(paths[source.IntN(len(paths))], "/")[1:]
	var all strings.Builder
	if source.IntN(30) > 0 {
		all.WriteByte('/')
	}
	for i := 0; i < len(elements); i++ {
		switch source.IntN(10) {
		case 0, 1:
			all.WriteString("**")
			i += source.IntN(3) - 1
		case 2:
			all.WriteString("*")
		case 3:
			all.WriteString([]string{"", "?", "***", "a**", "*?", "..", "\xff", "b"}[source.IntN(8)])
		case 4, 5:
			all.WriteString(blurred(source, elements[i]))
		default:
			all.WriteString(elements[i])
		}
		all.WriteString([]string{"/", "/", "/", "//"}[source.IntN(4)])
	}
	if source.IntN(4) == 0 {
		all.WriteString("**")
	}
	return all.String()
}

// compareTree compares Find with the model, and returns the number of paths.
func compareTree(t *testing.T, tested api.Tree, pattern string) int {
	t.Helper()
	want, wantFault := modelFind(tested, pattern)
	if paths, got := glob.Find(tested, pattern); !slices.Equal(paths, want) || got != wantFault {
		t.Errorf("Find(%v, %q) = %q, %v, want %q, %v", tested, pattern, paths, got, want, wantFault)
	}
	return len(want)
}

// TestGrownTrees compares larger trees and patterns with the model, the same
// ones in each run.
func TestGrownTrees(t *testing.T) {
	source := rand.New(rand.NewPCG(6, 2))
	counts := map[int]int{}
	for range 2000 {
		tested := grownTree(source)
		for range 10 {
			counts[min(compareTree(t, tested, grownPattern(source, tested)), 3)]++
		}
	}
	for n := range 4 {
		if counts[n] < 1000 {
			t.Errorf("only %d patterns match %d paths", counts[n], n)
		}
	}
}

// TestShortPatterns compares all patterns of a few critical elements with the
// model.
func TestShortPatterns(t *testing.T) {
	trees := []api.Tree{small(), treeOf("/a/a/a/a", "/a/b/a/b", "/b/a/b/a", "/b/b/b/b/a", "/ab/ab"), tree(dir())}
	for _, tested := range trees {
		for _, pattern := range texts(5, "/a", "/b", "/**", "/*", "/") {
			compareTree(t, tested, pattern)
		}
		for _, pattern := range texts(6, "/", "*", "?", "a") {
			compareTree(t, tested, pattern)
		}
	}
}

// TestFindMatches checks what R6.1 and R6.2 say of each other: a component of
// the root directory is found if it matches the pattern's only element.
func TestFindMatches(t *testing.T) {
	tested := treeOf("/a", "/b", "/aa", "/ab", "/ba", "/aba", "/bab", "/aab/a")
	for _, element := range texts(5, "*", "?", "a", "b") {
		if element == "" || element == "**" {
			continue
		}
		var want []string
		for _, e := range tested.Inodes[0].Entries {
			if ok, _ := glob.Match(element, e.Name); ok {
				want = append(want, "/"+e.Name)
			}
		}
		compareFind(t, tested, "/"+element, strings.Join(want, " "))
	}
}
