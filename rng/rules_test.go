package rng_test

import (
	"fmt"
	"slices"
	"strings"
	"sync"
	"testing"

	"farshelf/api"
	"farshelf/rng"
)

// strangeNumbers returns numbers that no caller should pass, among some that
// one may.
func strangeNumbers() []int {
	return slices.Concat(notSeeds(), notNumbers(), []int{0, 1, 2, 3, 65536, api.MaxEvents, api.MaxEvents + 1, api.MaxValue, 1<<31 - 1, 634785765, maxSeed - 1, maxSeed})
}

// describe returns the results of all functions, or the panic of one of them.
func describe(s, n int) (all string) {
	defer func() {
		if e := recover(); e != nil {
			all = fmt.Sprint("panic: ", e)
		}
	}()
	next, f1 := rng.Next(s)
	prev, f2 := rng.Prev(s)
	skipped, f3 := rng.Skip(s, n)
	number, drawn, f4 := rng.Intn(s, n)
	perm, shuffled, f5 := rng.Perm(s, n)
	return fmt.Sprint(next, f1, prev, f2, skipped, f3, number, drawn, f4, perm, shuffled, f5)
}

// TestTotality checks Z1: no argument makes a function panic or go on without
// an end.
func TestTotality(t *testing.T) {
	for _, s := range strangeNumbers() {
		for _, n := range strangeNumbers() {
			if text := describe(s, n); strings.HasPrefix(text, "panic") {
				t.Errorf("%d, %d: %s", s, n, text)
			}
		}
	}
}

// TestZeroResults checks Z2: with a fault, all other results are zero, and
// without one the fault has no index either.
func TestZeroResults(t *testing.T) {
	for _, s := range strangeNumbers() {
		for _, n := range strangeNumbers() {
			check := func(got api.Fault, zero bool, call string) {
				t.Helper()
				if got.Code != api.OK && !zero || got.Code == api.OK && got.Index != 0 {
					t.Errorf("%s of %d, %d: %v", call, s, n, got)
				}
			}
			next, got := rng.Next(s)
			check(got, next == 0, "Next")
			prev, got := rng.Prev(s)
			check(got, prev == 0, "Prev")
			skipped, got := rng.Skip(s, n)
			check(got, skipped == 0, "Skip")
			number, seed, got := rng.Intn(s, n)
			check(got, number == 0 && seed == 0, "Intn")
			perm, seed, got := rng.Perm(s, n)
			check(got, len(perm) == 0 && seed == 0, "Perm")
		}
	}
}

// TestResultsAreInRange checks what the document says of the values of the
// results: seeds are seeds, which every function takes, and drawn numbers are
// below n.
func TestResultsAreInRange(t *testing.T) {
	limits := numbers(1, 20)
	for i, s := range seeds(5000) {
		n := limits[i%len(limits)]
		next, _ := rng.Next(s)
		prev, _ := rng.Prev(s)
		skipped, _ := rng.Skip(s, n)
		number, drawn, _ := rng.Intn(s, n)
		_, shuffled, _ := rng.Perm(s, n%(api.MaxEvents+1))
		for _, seed := range []int{next, prev, skipped, drawn, shuffled} {
			if _, fault := rng.Next(seed); seed < 0 || seed > maxSeed || fault != success {
				t.Errorf("%d, %d: the result %d is not a seed: %v", s, n, seed, fault)
			}
		}
		if number < 0 || number >= n {
			t.Errorf("Intn(%d, %d) = %d", s, n, number)
		}
	}
}

// TestResultsAreSeparate checks Z4: a caller that changes the list of a result,
// or its spare capacity, changes no other one.
func TestResultsAreSeparate(t *testing.T) {
	for _, n := range []int{0, 1, 2, 3, 10, api.MaxEvents} {
		perm := func() []int { l, _, _ := rng.Perm(12345, n); return l }
		want := slices.Clone(perm())
		first, second := perm(), perm()
		for k := range first[:cap(first)] {
			first[:cap(first)][k] = 77
		}
		if third := perm(); len(want) != n || !slices.Equal(second, want) || !slices.Equal(third, want) {
			t.Errorf("Perm of %d: %v and %v after a change of the first result, want %v", n, second, third, want)
		}
	}
}

// TestDeterminism checks Z5: a call returns the same whatever was called before
// it or is called at the same time.
func TestDeterminism(t *testing.T) {
	all := append(seeds(300), strangeNumbers()...)
	call := func(i int) string { return describe(all[i], i%(api.MaxEvents+3)-1) }
	want := make([]string, len(all))
	for i := range all {
		want[i] = call(i)
	}
	var group sync.WaitGroup
	for worker := range 4 {
		group.Go(func() {
			for k := range all {
				i := (len(all) - 1 - k + worker*7) % len(all)
				if got := call(i); got != want[i] {
					t.Errorf("%d: %s, then %s", all[i], want[i], got)
				}
			}
		})
	}
	group.Wait()
}
