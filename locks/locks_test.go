package locks_test

import (
	"math"
	"slices"
	"testing"

	"zoneappend/api"
	"zoneappend/locks"
)

// TestExample has the chapter's example.
func TestExample(t *testing.T) {
	for n := 1; n <= api.MaxShards; n++ {
		for stripe := range n {
			l, ok := locks.Take(made(t, n), stripe, 1)
			if !ok {
				t.Errorf("the lock %d of %d cannot be taken", stripe, n)
			}
			holdTake(t, l, stripe, 2, with(free(n), stripe, 1), false)
		}
	}
}

// TestReadme has what README.md does with locks of three stripes.
func TestReadme(t *testing.T) {
	l := made(t, 3)
	var ok [6]bool
	l, ok[0] = locks.Take(l, 0, 1)
	l, ok[1] = locks.Take(l, 2, 1)
	l, ok[2] = locks.Take(l, 2, 4)
	ok[3] = locks.Free(l, 2)
	holdHeld(t, l, 1, 0, 2)
	l, ok[4] = locks.Give(l, 2, 4)
	l, ok[5] = locks.Give(l, 2, 1)
	if !same(l, of(1, -1, -1)) || ok != [6]bool{true, true, false, false, false, true} {
		t.Errorf("%v, %v", l, ok)
	}
	holdFree(t, l, 2, true)
}

func TestFree(t *testing.T) {
	for n := 1; n <= api.MaxShards; n++ {
		for stripe := range n {
			for _, l := range []api.Locks{free(n), mixed(n), of(make([]int, n)...), of(slices.Repeat([]int{greatest}, n)...)} {
				holdFree(t, with(l, stripe, -1), stripe, true)
				for _, owner := range threads() {
					holdFree(t, with(l, stripe, owner), stripe, false)
				}
				for other, owner := range l.Owner {
					if other != stripe { // what the owner of one stripe is makes no difference for another one
						holdFree(t, with(l, stripe, -1), other, owner == -1)
						holdFree(t, with(l, stripe, 3), other, owner == -1)
					}
				}
			}
		}
	}
}

func TestTakeFree(t *testing.T) {
	for n := 1; n <= api.MaxShards; n++ {
		for stripe := range n {
			for _, thread := range threads() {
				l := with(mixed(n), stripe, -1)
				holdTake(t, l, stripe, thread, with(l, stripe, thread), true)
				held := with(of(slices.Repeat([]int{thread}, n)...), stripe, -1) // all others are its own
				holdTake(t, held, stripe, thread, of(slices.Repeat([]int{thread}, n)...), true)
			}
		}
	}
}

// TestTakeHeld takes locks that are held: by the one that holds them, and by others.
func TestTakeHeld(t *testing.T) {
	for n := 1; n <= api.MaxShards; n++ {
		for stripe := range n {
			for _, owner := range threads() {
				for _, thread := range threads() {
					l := with(free(n), stripe, owner)
					holdTake(t, l, stripe, thread, l, false)
					l = with(mixed(n), stripe, owner)
					holdTake(t, l, stripe, thread, l, false)
				}
			}
		}
	}
}

// TestGiveHeld gives locks back that are held: by the one that holds them, and by others.
func TestGiveHeld(t *testing.T) {
	for n := 1; n <= api.MaxShards; n++ {
		for stripe := range n {
			for _, owner := range threads() {
				for _, thread := range threads() {
					for _, l := range []api.Locks{free(n), mixed(n), of(slices.Repeat([]int{thread}, n)...)} {
						l = with(l, stripe, owner)
						if thread == owner {
							holdGive(t, l, stripe, thread, with(l, stripe, -1), true)
						} else {
							holdGive(t, l, stripe, thread, l, false)
						}
					}
				}
			}
		}
	}
}

// TestGiveFree gives locks back that nobody holds.
func TestGiveFree(t *testing.T) {
	for n := 1; n <= api.MaxShards; n++ {
		for stripe := range n {
			for _, thread := range slices.Concat(threads(), negatives()) {
				holdGive(t, free(n), stripe, thread, free(n), false)
				l := with(mixed(n), stripe, -1)
				holdGive(t, l, stripe, thread, l, false)
			}
		}
	}
}

// TestNegativeThreads has numbers that no thread has, which take, give back and hold nothing.
func TestNegativeThreads(t *testing.T) {
	for n := 1; n <= api.MaxShards; n++ {
		for _, thread := range negatives() {
			for _, l := range []api.Locks{free(n), mixed(n), of(slices.Repeat([]int{5}, n)...)} {
				for stripe := range n {
					holdTake(t, l, stripe, thread, l, false)
					holdGive(t, l, stripe, thread, l, false)
				}
				holdHeld(t, l, thread)
			}
		}
	}
}

// TestStrangers has stripes that locks do not have, all free ones and all held ones too.
func TestStrangers(t *testing.T) {
	for n := 1; n <= api.MaxShards; n++ {
		for _, l := range []api.Locks{free(n), mixed(n), of(make([]int, n)...), of(slices.Repeat([]int{4}, n)...)} {
			for _, stripe := range strangers(n) {
				if 0 <= stripe && stripe < n {
					continue
				}
				holdFree(t, l, stripe, false)
				for _, thread := range []int{-2, -1, 0, 1, 4, math.MinInt, greatest} {
					holdTake(t, l, stripe, thread, l, false)
					holdGive(t, l, stripe, thread, l, false)
				}
			}
		}
	}
}

// sets are all sets of stripes of n, each ascending.
func sets(n int) [][]int {
	all := [][]int{nil}
	for stripe := range n {
		for _, set := range slices.Clone(all) {
			all = append(all, append(slices.Clip(set), stripe))
		}
	}
	return all
}

// TestHeld has all sets of stripes that a thread may hold, the other stripes being free, and being held by another one.
func TestHeld(t *testing.T) {
	for n := 1; n <= api.MaxShards; n++ {
		for _, set := range sets(n) {
			for _, thread := range []int{0, 1, 6, greatest} {
				for _, other := range []int{-1, 3, 255, greatest - 1} {
					l := of(slices.Repeat([]int{other}, n)...)
					for _, stripe := range set {
						l.Owner[stripe] = thread
					}
					holdHeld(t, l, thread, set...)
					holdHeld(t, l, 2)
					holdHeld(t, l, -1)
				}
			}
		}
	}
	for _, thread := range threads() {
		holdHeld(t, of(thread, -1, thread), thread, 0, 2)
	}
	holdHeld(t, mixed(8), 4, 0, 5, 7)
	holdHeld(t, mixed(8), 0, 2)
	holdHeld(t, mixed(8), greatest, 3)
}

// TestHeldOfWrongLocks has locks that are not valid: P11.3 asks only who the owners are.
func TestHeldOfWrongLocks(t *testing.T) {
	holdHeld(t, api.Locks{}, 0)
	holdHeld(t, api.Locks{}, -1)
	holdHeld(t, of([]int{}...), 1)
	holdHeld(t, of(3, -2, 3, -1), 3, 0, 2)
	holdHeld(t, of(-2, 0, math.MinInt), 0, 1)
	holdHeld(t, of(1, 0, 1, 1, -1, 0, 1, 0, 1), 1, 0, 2, 3, 6, 8)
	for _, owner := range negatives() {
		holdHeld(t, of(owner, 5, owner), owner)
		holdHeld(t, of(owner, 5, owner), 5, 1)
	}
	for _, n := range []int{9, 16, 256, 1000} {
		holdHeld(t, of(make([]int, n)...), 1)
		holdHeld(t, with(free(n), n-1, 6), 6, n-1)
		holdHeld(t, free(n), -1)
	}
}
