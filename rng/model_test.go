package rng_test

import (
	"math/rand/v2"
	"slices"
	"testing"

	"farshelf/api"
	"farshelf/rng"
)

// The models follow the definitions of the document in another way than the
// package: without integers that wrap around, an inverse or powers.

// modelNext returns the successor of a seed.
func modelNext(s int) int { return (1664525*s + 1013904223) % (1 << 32) }

// modelPrev returns the seed whose successor is s. It finds the bits of this
// seed one by one, from the lowest, as a bit has no effect on those below it.
func modelPrev(s int) int {
	prev := 0
	for bit := 1; bit < 1<<32; bit *= 2 {
		if modelNext(prev)&bit != s&bit {
			prev += bit
		}
	}
	return prev
}

// modelSkip returns the result of n steps.
func modelSkip(s, n int) int {
	for range n {
		s = modelNext(s)
	}
	return s
}

// modelIntn returns the results of Intn for valid arguments: it takes the
// upper half of the next seed.
func modelIntn(s, n int) (int, int) {
	next := modelNext(s)
	upper := next >> 16
	return upper % n, next
}

// modelPerm returns the results of Perm for valid arguments: it builds the
// permutation from its end, from the integers that are left.
func modelPerm(s, n int) ([]int, int) {
	var perm, left []int
	for i := range n {
		left = append(left, i)
	}
	for len(left) > 0 {
		j := 0
		if len(left) > 1 {
			j, s = modelIntn(s, len(left))
		}
		perm = append(perm, left[j])
		left[j] = left[len(left)-1]
		left = left[:len(left)-1]
	}
	slices.Reverse(perm)
	return perm, s
}

// seeds returns critical seeds, and n other ones, the same ones in each run.
func seeds(n int) []int {
	var all []int
	for power := 1; power <= 1<<32; power *= 2 {
		for _, s := range []int{power - 1, power, power + 1, maxSeed - power, 1<<32 - power} {
			if s >= 0 && s <= maxSeed {
				all = append(all, s, modelPrev(s))
			}
		}
	}
	source := rand.New(rand.NewPCG(9, 1))
	for range n {
		all = append(all, source.IntN(1<<32))
	}
	slices.Sort(all)
	return slices.Compact(all)
}

// numbers returns critical numbers from least to MaxValue, and n other ones,
// the same ones in each run.
func numbers(least, n int) []int {
	all := []int{least, least + 1, 3, 5, 6, 7, 10, 100, 65535, 65536, 65537, api.MaxValue - 1, api.MaxValue}
	for power := 2; power < api.MaxValue; power *= 2 {
		all = append(all, power-1, power, power+1)
	}
	source := rand.New(rand.NewPCG(9, 2))
	for range n {
		all = append(all, least+source.IntN(api.MaxValue+1-least))
	}
	slices.Sort(all)
	return slices.Compact(all)
}

// TestSeeds compares Next and Prev with the models, and checks what R9.1 and
// R9.2 say of each other: each undoes the other, so that no two seeds have the
// same successor.
func TestSeeds(t *testing.T) {
	for _, s := range seeds(100000) {
		next, fault := rng.Next(s)
		if want := modelNext(s); next != want || fault != success {
			t.Fatalf("Next(%d) = %d, %v, want %d", s, next, fault, want)
		}
		prev, fault := rng.Prev(s)
		if want := modelPrev(s); prev != want || fault != success {
			t.Fatalf("Prev(%d) = %d, %v, want %d", s, prev, fault, want)
		}
		if back, fault := rng.Prev(next); back != s || fault != success {
			t.Fatalf("Prev(Next(%d)) = %d, %v", s, back, fault)
		}
		if forth, fault := rng.Next(prev); forth != s || fault != success {
			t.Fatalf("Next(Prev(%d)) = %d, %v", s, forth, fault)
		}
	}
}

// TestAllSkips compares Skip with the model for all numbers of steps.
func TestAllSkips(t *testing.T) {
	for _, s := range []int{0, 634785765, 1 << 31, maxSeed} {
		want := s
		for n := range api.MaxValue + 1 {
			if got, fault := rng.Skip(s, n); got != want || fault != success {
				t.Fatalf("Skip(%d, %d) = %d, %v, want %d", s, n, got, fault, want)
			}
			want = modelNext(want)
		}
	}
}

// TestSkips compares Skip with the model for many seeds.
func TestSkips(t *testing.T) {
	for _, s := range seeds(300) {
		for _, n := range []int{0, 1, 2, 3, 4, 7, 8, 100, 1023, 1024, 2000} {
			if got, fault := rng.Skip(s, n); got != modelSkip(s, n) || fault != success {
				t.Fatalf("Skip(%d, %d) = %d, %v, want %d", s, n, got, fault, modelSkip(s, n))
			}
		}
	}
}

// TestSkipsAdd checks what R9.3 says of two calls: the second one goes on where
// the first one ended.
func TestSkipsAdd(t *testing.T) {
	steps := numbers(0, 100)
	for i, s := range seeds(3000) {
		n := steps[i%len(steps)]
		first := n * (i % 8) / 7
		middle, _ := rng.Skip(s, first)
		got, fault := rng.Skip(middle, n-first)
		if want, _ := rng.Skip(s, n); got != want || fault != success {
			t.Fatalf("Skip(Skip(%d, %d), %d) = %d, %v, want %d", s, first, n-first, got, fault, want)
		}
	}
}

// TestIntns compares Intn with the model.
func TestIntns(t *testing.T) {
	limits := numbers(1, 300)
	for _, s := range seeds(2000) {
		for _, n := range limits {
			want, wantNext := modelIntn(s, n)
			if got, next, fault := rng.Intn(s, n); got != want || next != wantNext || fault != success {
				t.Fatalf("Intn(%d, %d) = %d, %d, %v, want %d, %d", s, n, got, next, fault, want, wantNext)
			}
		}
	}
}

// TestPerms compares Perm with the model for all lengths, and checks that its
// result has each integer once and that each exchange takes one step.
func TestPerms(t *testing.T) {
	var integers []int
	for n := range api.MaxEvents {
		integers = append(integers, n)
	}
	for _, s := range seeds(100) {
		for n := range api.MaxEvents + 1 {
			want, wantNext := modelPerm(s, n)
			got, next, fault := rng.Perm(s, n)
			if !slices.Equal(got, want) || next != wantNext || fault != success {
				t.Fatalf("Perm(%d, %d) = %v, %d, %v, want %v, %d", s, n, got, next, fault, want, wantNext)
			}
			if skipped, _ := rng.Skip(s, max(n-1, 0)); next != skipped {
				t.Fatalf("Perm(%d, %d) ends with %d, want %d", s, n, next, skipped)
			}
			slices.Sort(got)
			if !slices.Equal(got, integers[:n]) {
				t.Fatalf("Perm(%d, %d) has the elements %v", s, n, got)
			}
		}
	}
}

// TestShortPerms compares Perm with the model for many seeds, which give every
// permutation of some integers.
func TestShortPerms(t *testing.T) {
	found := map[[4]int]bool{}
	for _, s := range seeds(2000) {
		for n := range 6 {
			want, wantNext := modelPerm(s, n)
			got, next, fault := rng.Perm(s, n)
			if !slices.Equal(got, want) || next != wantNext || fault != success {
				t.Fatalf("Perm(%d, %d) = %v, %d, %v, want %v, %d", s, n, got, next, fault, want, wantNext)
			}
			if n == 4 {
				found[[4]int(got)] = true
			}
		}
	}
	if len(found) != 24 {
		t.Errorf("only %d permutations of 4 integers", len(found))
	}
}

// TestPermDraws checks what R9.4 and R9.5 say of each other: Perm draws with
// Intn.
func TestPermDraws(t *testing.T) {
	for i, s := range seeds(500) {
		n := i % (api.MaxEvents + 1)
		want, seed := make([]int, n), s
		for k := range want {
			want[k] = k
		}
		for k := n - 1; k >= 1; k-- {
			j, next, fault := rng.Intn(seed, k+1)
			if fault != success {
				t.Fatalf("Intn(%d, %d): %v", seed, k+1, fault)
			}
			want[k], want[j] = want[j], want[k]
			seed = next
		}
		if got, next, fault := rng.Perm(s, n); !slices.Equal(got, want) || next != seed || fault != success {
			t.Errorf("Perm(%d, %d) = %v, %d, %v, want %v, %d", s, n, got, next, fault, want, seed)
		}
	}
}
