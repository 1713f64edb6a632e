package locks_test

import (
	"math"
	"slices"
	"testing"

	"zoneappend/api"
	"zoneappend/locks"
)

// greatest is the greatest number that a thread may have.
const greatest = math.MaxInt

// above and below are numbers far from every limit: no stripes and no numbers of stripes, and the latter ones no threads.
var (
	above = []int{1<<31 - 1, 1<<32 - 1, 1 << 32, 1<<32 + 1, 1<<40 + 1, 1 << 62, math.MaxInt - 1, math.MaxInt}
	below = []int{-8, -9, -255, -256, -257, -1 << 32, 1 - 1<<32, -1 << 40, -1 << 62, math.MinInt + 1, math.MinInt}
)

// threads are numbers of threads: the least, small ones, and the greatest ones.
func threads() []int { return slices.Concat([]int{0, 1, 2, 6, 7, 8, 255, 256}, above) }

// negatives are numbers that no thread has.
func negatives() []int { return slices.Concat([]int{-1, -2, -3}, below) }

// ends are the indices of the first, a middle and the last element of a list of n.
func ends(n int) []int { return slices.Compact([]int{0, n / 2, n - 1}) }

// strangers are numbers that are no stripe of locks with n stripes. Some are one in their lowest bits.
func strangers(n int) []int {
	return slices.Concat([]int{-1, -2, -n, n, n + 1, 2 * n, 8, 9, 255, 256, 257}, above, below)
}

// of is locks with these owners.
func of(owners ...int) api.Locks { return api.Locks{Owner: owners} }

// free is locks with n stripes that nobody holds.
func free(n int) api.Locks { return of(slices.Repeat([]int{-1}, n)...) }

// mixed is locks with n stripes, of which no two that follow each other have the same owner.
func mixed(n int) api.Locks {
	return of(slices.Repeat([]int{4, -1, 0, greatest, -1, 4, 1}, n/7+1)[:n]...)
}

// with is locks with another owner of a stripe.
func with(l api.Locks, stripe, owner int) api.Locks {
	l = copied(l)
	l.Owner[stripe] = owner
	return l
}

// copied is locks of their own with the same owners.
func copied(l api.Locks) api.Locks { return api.Locks{Owner: slices.Clone(l.Owner)} }

// same tells whether two locks have the same owners.
func same(a, b api.Locks) bool { return slices.Equal(a.Owner, b.Owner) }

// holdStay expects that locks, and all that is before and behind them in memory, are behind a call as they were before.
func holdStay(t *testing.T, l api.Locks, call func(l api.Locks)) {
	t.Helper()
	whole := slices.Concat([]int{-1}, l.Owner, []int{-1, 3, -1})
	before := slices.Clone(whole)
	given := of(whole[1 : 1+len(l.Owner)]...)
	call(given)
	if !slices.Equal(whole, before) || !same(given, l) {
		t.Fatalf("%v\nbecame %v", before, whole)
	}
	if l.Owner == nil {
		call(l)
	}
}

// holdValid expects what Valid says of locks.
func holdValid(t *testing.T, l api.Locks, want bool) {
	t.Helper()
	holdStay(t, l, func(l api.Locks) {
		t.Helper()
		if locks.Valid(l) != want {
			t.Fatalf("Valid of %v: %t, want %t", l, !want, want)
		}
	})
}

// holdFree expects what Free says of a stripe.
func holdFree(t *testing.T, l api.Locks, stripe int, want bool) {
	t.Helper()
	holdStay(t, l, func(l api.Locks) {
		t.Helper()
		if locks.Free(l, stripe) != want {
			t.Fatalf("Free of the stripe %d of %v: %t, want %t", stripe, l, !want, want)
		}
	})
}

// holdTake expects what Take returns.
func holdTake(t *testing.T, l api.Locks, stripe, thread int, want api.Locks, done bool) {
	t.Helper()
	holdStay(t, l, func(l api.Locks) {
		t.Helper()
		if got, ok := locks.Take(l, stripe, thread); !same(got, want) || ok != done {
			t.Fatalf("Take of the stripe %d of %v by %d\n= %v, %t\nwant %v, %t", stripe, l, thread, got, ok, want, done)
		}
	})
}

// holdGive expects what Give returns.
func holdGive(t *testing.T, l api.Locks, stripe, thread int, want api.Locks, done bool) {
	t.Helper()
	holdStay(t, l, func(l api.Locks) {
		t.Helper()
		if got, ok := locks.Give(l, stripe, thread); !same(got, want) || ok != done {
			t.Fatalf("Give of the stripe %d of %v by %d\n= %v, %t\nwant %v, %t", stripe, l, thread, got, ok, want, done)
		}
	})
}

// holdHeld expects what Held returns.
func holdHeld(t *testing.T, l api.Locks, thread int, want ...int) {
	t.Helper()
	holdStay(t, l, func(l api.Locks) {
		t.Helper()
		if got := locks.Held(l, thread); !slices.Equal(got, want) {
			t.Fatalf("Held of %v by %d: %v, want %v", l, thread, got, want)
		}
	})
}

// refuse expects that locks are not valid: none is free, and none can be taken or given back, also not by its owner.
func refuse(t *testing.T, l api.Locks) {
	t.Helper()
	holdValid(t, l, false)
	n := len(l.Owner)
	stripes := slices.Concat([]int{-1, n, math.MinInt, math.MaxInt}, ends(max(n, 1)))
	callers := slices.Concat([]int{-2, -1, 0, 1, 4, math.MinInt, greatest}, l.Owner[:min(n, 9)])
	for _, stripe := range stripes {
		holdFree(t, l, stripe, false)
		for _, thread := range callers {
			holdTake(t, l, stripe, thread, l, false)
			holdGive(t, l, stripe, thread, l, false)
		}
	}
}
