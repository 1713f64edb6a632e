package locks_test

import (
	"slices"
	"testing"

	"zoneappend/api"
	"zoneappend/locks"
)

// made is locks that New has made.
func made(t *testing.T, stripes int) api.Locks {
	t.Helper()
	l, e := locks.New(stripes)
	if e != api.OK || !same(l, free(stripes)) {
		t.Fatalf("New(%d): %v, %d", stripes, l, e)
	}
	return l
}

func TestNew(t *testing.T) {
	for n := 1; n <= api.MaxShards; n++ {
		l := made(t, n)
		holdValid(t, l, true)
		for stripe := range n {
			holdFree(t, l, stripe, true)
			for _, thread := range threads() {
				holdTake(t, l, stripe, thread, with(l, stripe, thread), true)
				holdGive(t, l, stripe, thread, l, false)
				holdHeld(t, l, thread)
			}
		}
		holdFree(t, l, n, false)
		holdFree(t, l, -1, false)
	}
}

// TestNewOfNoStripes has numbers of stripes that locks cannot have.
func TestNewOfNoStripes(t *testing.T) {
	for _, n := range slices.Concat([]int{-1, 0, 9, 10, 16, 32, 255, 256, 257, 264}, above, negatives()) {
		if l, e := locks.New(n); e != api.ErrRange || len(l.Owner) != 0 {
			t.Errorf("New(%d): %v, %d", n, l, e)
		}
	}
}

// TestResultsAreNew writes into what was returned, as nobody should: other locks, and what is returned later, do not change.
func TestResultsAreNew(t *testing.T) {
	for n := 1; n <= api.MaxShards; n++ {
		first, taken := made(t, n), with(free(n), n-1, 5)
		l, _ := locks.Take(first, n-1, 5)
		back, _ := locks.Give(l, n-1, 5)
		held := locks.Held(l, 5)
		for i := range n {
			back.Owner[i] = 7
		}
		held[0] = 9
		if !same(first, free(n)) || !same(l, taken) {
			t.Errorf("%d stripes: %v, %v", n, first, l)
		}
		for i := range n {
			first.Owner[i] = 7
		}
		made(t, n)
		if !same(l, taken) {
			t.Errorf("%d stripes: %v", n, l)
		}
		holdHeld(t, l, 5, n-1)
	}
}

func TestValid(t *testing.T) {
	for n := 1; n <= api.MaxShards; n++ {
		holdValid(t, free(n), true)
		holdValid(t, mixed(n), true)
		for _, owner := range slices.Concat([]int{-1}, threads()) {
			holdValid(t, of(slices.Repeat([]int{owner}, n)...), true)
			for _, stripe := range ends(n) {
				holdValid(t, with(free(n), stripe, owner), true)
				holdValid(t, with(mixed(n), stripe, owner), true)
			}
		}
	}
}

// TestTooFewOrTooMany has locks with no stripes, and with more than there may be.
func TestTooFewOrTooMany(t *testing.T) {
	refuse(t, api.Locks{})
	refuse(t, of([]int{}...))
	for _, n := range []int{9, 10, 16, 32, 255, 256, 257, 264, 1000} {
		refuse(t, free(n))
		refuse(t, mixed(n))
		refuse(t, of(slices.Repeat([]int{0}, n)...))
		refuse(t, of(slices.Repeat([]int{greatest}, n)...))
	}
}

// TestWrongOwners has one owner that no lock has, at the first, a middle and the last place.
func TestWrongOwners(t *testing.T) {
	for n := 1; n <= api.MaxShards; n++ {
		for _, l := range []api.Locks{free(n), mixed(n), of(make([]int, n)...), of(slices.Repeat([]int{4}, n)...)} {
			for stripe := range n {
				for _, owner := range negatives()[1:] {
					refuse(t, with(l, stripe, owner))
				}
			}
		}
		refuse(t, of(slices.Repeat([]int{-2}, n)...))
	}
}

// TestWrongOwnerElsewhere has calls for a stripe that would be right, if it were not for the owner of another one.
func TestWrongOwnerElsewhere(t *testing.T) {
	for n := 2; n <= api.MaxShards; n++ {
		for wrong := range n {
			for stripe := range n {
				if stripe == wrong {
					continue
				}
				l := with(with(mixed(n), stripe, -1), wrong, -2)
				holdFree(t, l, stripe, false)
				holdTake(t, l, stripe, 3, l, false)
				l = with(l, stripe, 3)
				holdGive(t, l, stripe, 3, l, false)
			}
		}
	}
}
