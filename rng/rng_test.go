package rng_test

import (
	"math"
	"slices"
	"testing"

	"farshelf/api"
	"farshelf/rng"
)

// maxSeed is the largest seed.
const maxSeed = 1<<32 - 1

var (
	success   = api.Fault{}
	badSeed   = api.Fault{Code: api.ErrRange, Index: -1}
	badNumber = api.Fault{Code: api.ErrRange}
	tooMany   = api.Fault{Code: api.ErrTooMany}
)

// notSeeds are numbers that are no seeds, some of them equal to a seed in their
// lower 32 bits.
func notSeeds() []int {
	return []int{math.MinInt, math.MinInt + 1, -1 << 32, -1 << 31, -2, -1, 1 << 32, 1<<32 + 1, 1<<33 - 1, 1 << 40, math.MaxInt - 1, math.MaxInt}
}

// notNumbers are numbers that are neither between 0 nor between 1 and MaxValue.
func notNumbers() []int {
	return []int{math.MinInt, -1 << 32, -api.MaxValue, -2, -1, api.MaxValue + 1, 1 << 31, 1 << 32, 1<<32 + 1, math.MaxInt}
}

// TestNext checks R9.1.
func TestNext(t *testing.T) {
	cases := []struct{ s, want int }{
		{0, 1013904223},
		{1, 1015568748},
		{2, 1017233273},
		{1013904223, 1196435762},
		{1196435762, 3519870697},
		{3519870697, 2868466484},
		{123456789, 920370032},
		{634785765, 0},
		{615934122, 1},
		{653637408, maxSeed},
		{1 << 31, 3161387871},
		{maxSeed, 1012239698},
	}
	for _, c := range cases {
		if got, fault := rng.Next(c.s); got != c.want || fault != success {
			t.Errorf("Next(%d) = %d, %v, want %d", c.s, got, fault, c.want)
		}
	}
}

// TestNextSequence checks R9.1 with the first seeds that follow 0.
func TestNextSequence(t *testing.T) {
	s := 0
	for i, want := range []int{0x3c6ef35f, 0x47502932, 0xd1ccf6e9, 0xaaf95334, 0x6252e503, 0x9f2ec686, 0x57fe6c2d, 0xa3d95fa8, 0x81fdbee7, 0x94f0af1a} {
		got, fault := rng.Next(s)
		if got != want || fault != success {
			t.Fatalf("step %d: Next(%d) = %d, %v, want %d", i, s, got, fault, want)
		}
		s = got
	}
}

// TestPrev checks R9.2.
func TestPrev(t *testing.T) {
	cases := []struct{ s, want int }{
		{1013904223, 0},
		{1015568748, 1},
		{1017233273, 2},
		{1196435762, 1013904223},
		{3519870697, 1196435762},
		{920370032, 123456789},
		{0, 634785765},
		{1, 615934122},
		{maxSeed, 653637408},
		{3161387871, 1 << 31},
		{1012239698, maxSeed},
	}
	for _, c := range cases {
		if got, fault := rng.Prev(c.s); got != c.want || fault != success {
			t.Errorf("Prev(%d) = %d, %v, want %d", c.s, got, fault, c.want)
		}
	}
}

// TestSkip checks R9.3.
func TestSkip(t *testing.T) {
	cases := []struct{ s, n, want int }{
		{0, 0, 0},
		{7, 0, 7},
		{1 << 31, 0, 1 << 31},
		{maxSeed, 0, maxSeed},
		{0, 1, 1013904223},
		{634785765, 1, 0},
		{0, 2, 1196435762},
		{0, 3, 3519870697},
		{0, 7, 1476291629},
		{0, 8, 2748932008},
		{0, 65536, 3903127552},
		{0, 999999, 503324709},
		{0, api.MaxValue, 4074525504},
		{1, 3, 2165703038},
		{1, 8, 2388811721},
		{1, api.MaxValue, 366300225},
		{123456789, 65536, 1863634197},
		{123456789, api.MaxValue, 3137965397},
		{maxSeed, 1, 1012239698},
		{maxSeed, 7, 3919968968},
		{maxSeed, 999999, 3220187744},
		{maxSeed, api.MaxValue, 3487783487},
	}
	for _, c := range cases {
		if got, fault := rng.Skip(c.s, c.n); got != c.want || fault != success {
			t.Errorf("Skip(%d, %d) = %d, %v, want %d", c.s, c.n, got, fault, c.want)
		}
	}
}

// TestIntn checks R9.4.
func TestIntn(t *testing.T) {
	cases := []struct{ s, n, want, next int }{
		{0, 1, 0, 1013904223},
		{0, 2, 0, 1013904223},
		{0, 3, 2, 1013904223},
		{0, 100, 70, 1013904223},
		{0, 15470, 0, 1013904223},
		{0, 15471, 15470, 1013904223},
		{0, 65535, 15470, 1013904223},
		{0, 65536, 15470, 1013904223},
		{0, 65537, 15470, 1013904223},
		{0, api.MaxValue, 15470, 1013904223},
		{1, 1, 0, 1015568748},
		{1, 3, 1, 1015568748},
		{1, 100, 96, 1015568748},
		{123456789, 2, 1, 920370032},
		{123456789, 65536, 14043, 920370032},
		{maxSeed, 2, 1, 1012239698},
		{maxSeed, 100, 45, 1012239698},
		{maxSeed, api.MaxValue, 15445, 1012239698},

		// The successors 0, 65535, 65536 and maxSeed, where the division by
		// 65536 begins, steps and ends.
		{634785765, 1, 0, 0},
		{634785765, 7, 0, 0},
		{634785765, api.MaxValue, 0, 0},
		{2142943008, api.MaxValue, 0, 65535},
		{2124091365, api.MaxValue, 1, 65536},
		{653637408, 1, 0, maxSeed},
		{653637408, 65535, 0, maxSeed},
		{653637408, 65536, 65535, maxSeed},
		{653637408, 65537, 65535, maxSeed},
		{653637408, api.MaxValue, 65535, maxSeed},
	}
	for _, c := range cases {
		if got, next, fault := rng.Intn(c.s, c.n); got != c.want || next != c.next || fault != success {
			t.Errorf("Intn(%d, %d) = %d, %d, %v, want %d, %d", c.s, c.n, got, next, fault, c.want, c.next)
		}
	}
}

// TestPerm checks R9.5.
func TestPerm(t *testing.T) {
	cases := []struct {
		s, n int
		want []int
		next int
	}{
		{0, 0, nil, 0},
		{7, 0, nil, 7},
		{maxSeed, 0, nil, maxSeed},
		{0, 1, []int{0}, 0},
		{3, 1, []int{0}, 3},
		{maxSeed, 1, []int{0}, maxSeed},
		{0, 2, []int{1, 0}, 1013904223},
		{maxSeed, 2, []int{0, 1}, 1012239698},
		{634785765, 2, []int{1, 0}, 0},
		{0, 3, []int{1, 0, 2}, 1196435762},
		{1, 3, []int{2, 0, 1}, 1586005467},
		{123456789, 3, []int{1, 2, 0}, 3761641487},
		{maxSeed, 3, []int{0, 2, 1}, 806866057},
		{0, 5, []int{3, 1, 2, 4, 0}, 2868466484},
		{maxSeed, 5, []int{2, 1, 4, 3, 0}, 2709482403},
		{0, 8, []int{3, 7, 1, 5, 4, 2, 0, 6}, 1476291629},
		{1, 8, []int{6, 2, 3, 5, 7, 4, 1, 0}, 3327581586},
		{0, 10, []int{7, 1, 3, 2, 6, 9, 5, 8, 4, 0}, 2180890343},
		{1, 10, []int{4, 3, 5, 7, 1, 0, 2, 9, 8, 6}, 70837908},
		{123456789, 10, []int{1, 6, 2, 4, 8, 0, 7, 9, 5, 3}, 1696368920},
	}
	for _, c := range cases {
		if got, next, fault := rng.Perm(c.s, c.n); !slices.Equal(got, c.want) || next != c.next || fault != success {
			t.Errorf("Perm(%d, %d) = %v, %d, %v, want %v, %d", c.s, c.n, got, next, fault, c.want, c.next)
		}
	}
}

// TestLongestPerm checks R9.5 at the limit.
func TestLongestPerm(t *testing.T) {
	got, next, fault := rng.Perm(0, api.MaxEvents)
	if len(got) != 200 || next != 82779885 || fault != success {
		t.Fatalf("Perm(0, %d) = %d elements, %d, %v", api.MaxEvents, len(got), next, fault)
	}
	if first, last := []int{72, 137, 162, 198, 101}, []int{82, 35, 50, 147, 70}; !slices.Equal(got[:5], first) || !slices.Equal(got[195:], last) {
		t.Errorf("Perm(0, %d) = %v", api.MaxEvents, got)
	}
}

// TestBadSeeds checks the first error of all functions.
func TestBadSeeds(t *testing.T) {
	for _, s := range notSeeds() {
		if got, fault := rng.Next(s); got != 0 || fault != badSeed {
			t.Errorf("Next(%d) = %d, %v", s, got, fault)
		}
		if got, fault := rng.Prev(s); got != 0 || fault != badSeed {
			t.Errorf("Prev(%d) = %d, %v", s, got, fault)
		}
		for _, n := range []int{0, 1, 2, api.MaxEvents, api.MaxValue} {
			if got, fault := rng.Skip(s, n); got != 0 || fault != badSeed {
				t.Errorf("Skip(%d, %d) = %d, %v", s, n, got, fault)
			}
			if got, next, fault := rng.Intn(s, max(n, 1)); got != 0 || next != 0 || fault != badSeed {
				t.Errorf("Intn(%d, %d) = %d, %d, %v", s, max(n, 1), got, next, fault)
			}
			if got, next, fault := rng.Perm(s, min(n, api.MaxEvents)); len(got) != 0 || next != 0 || fault != badSeed {
				t.Errorf("Perm(%d, %d) = %v, %d, %v", s, min(n, api.MaxEvents), got, next, fault)
			}
		}
	}
}

// TestBadNumbers checks the second error of Skip, Intn and Perm.
func TestBadNumbers(t *testing.T) {
	for _, s := range []int{0, 1, 1 << 31, maxSeed} {
		for _, n := range notNumbers() {
			if got, fault := rng.Skip(s, n); got != 0 || fault != badNumber {
				t.Errorf("Skip(%d, %d) = %d, %v", s, n, got, fault)
			}
		}
		for _, n := range append(notNumbers(), 0) {
			if got, next, fault := rng.Intn(s, n); got != 0 || next != 0 || fault != badNumber {
				t.Errorf("Intn(%d, %d) = %d, %d, %v", s, n, got, next, fault)
			}
		}
		for _, n := range notNumbers() {
			if got, next, fault := rng.Perm(s, n); len(got) != 0 || next != 0 || fault != badNumber {
				t.Errorf("Perm(%d, %d) = %v, %d, %v", s, n, got, next, fault)
			}
		}
	}
}

// TestTooLongPerms checks the third error, which only Perm has.
func TestTooLongPerms(t *testing.T) {
	for _, s := range []int{0, 1, 1 << 31, maxSeed} {
		for _, n := range []int{api.MaxEvents + 1, api.MaxEvents + 2, 1000, api.MaxValue - 1, api.MaxValue} {
			if got, next, fault := rng.Perm(s, n); len(got) != 0 || next != 0 || fault != tooMany {
				t.Errorf("Perm(%d, %d) = %v, %d, %v", s, n, got, next, fault)
			}
			if _, fault := rng.Skip(s, n); fault != success {
				t.Errorf("Skip(%d, %d): %v", s, n, fault)
			}
			if _, _, fault := rng.Intn(s, n); fault != success {
				t.Errorf("Intn(%d, %d): %v", s, n, fault)
			}
		}
	}
}

// TestOrder checks the order of the errors with arguments to which two of them
// apply. A number to which the last two apply is in TestBadNumbers.
func TestOrder(t *testing.T) {
	for _, s := range notSeeds() {
		for _, n := range append(notNumbers(), 0) {
			if _, _, fault := rng.Intn(s, n); fault != badSeed {
				t.Errorf("Intn(%d, %d): %v", s, n, fault)
			}
		}
		for _, n := range append(notNumbers(), api.MaxEvents+1, api.MaxValue) {
			if _, fault := rng.Skip(s, n); fault != badSeed {
				t.Errorf("Skip(%d, %d): %v", s, n, fault)
			}
			if _, _, fault := rng.Perm(s, n); fault != badSeed {
				t.Errorf("Perm(%d, %d): %v", s, n, fault)
			}
		}
	}
}
