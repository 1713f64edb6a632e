package locks_test

import (
	"math"
	"slices"
	"testing"

	"zoneappend/api"
	"zoneappend/locks"
)

// lists are all lists of up to n numbers of another one.
func lists(n int, among []int) [][]int {
	all, longest := [][]int{nil}, [][]int{nil}
	for range n {
		var longer [][]int
		for _, l := range longest {
			for _, e := range among {
				longer = append(longer, append(slices.Clip(l), e))
			}
		}
		all, longest = append(all, longer...), longer
	}
	return all
}

// holdCalls holds all calls of locks by some threads against the second reading of the chapter.
func holdCalls(t *testing.T, l api.Locks, callers []int) {
	t.Helper()
	holdValid(t, l, expectValid(l))
	for stripe := -2; stripe <= len(l.Owner)+1; stripe++ {
		holdFree(t, l, stripe, expectFree(l, stripe))
		for _, thread := range callers {
			want, ok := expectTake(l, stripe, thread)
			holdTake(t, l, stripe, thread, want, ok)
			want, ok = expectGive(l, stripe, thread)
			holdGive(t, l, stripe, thread, want, ok)
		}
	}
	for _, thread := range callers {
		holdHeld(t, l, thread, expectHeld(l, thread)...)
	}
}

// TestAllOfFewStripes has all calls of all locks of up to four stripes with few owners.
func TestAllOfFewStripes(t *testing.T) {
	owners := []int{math.MinInt, -2, -1, 0, 1, greatest}
	valid := 0
	for _, list := range lists(4, owners) {
		holdCalls(t, of(list...), append([]int{2}, owners...))
		if locks.Valid(of(list...)) {
			valid++
		}
	}
	if valid != 4+4*4+4*4*4+4*4*4*4 {
		t.Errorf("%d are valid", valid)
	}
}

// TestAllOfMoreStripes has all calls of all locks of up to nine stripes, of which there may be eight, by two threads.
func TestAllOfMoreStripes(t *testing.T) {
	valid := 0
	for _, list := range lists(9, []int{-1, 0}) {
		holdCalls(t, of(list...), []int{-1, 0, 1})
		if locks.Valid(of(list...)) {
			valid++
		}
	}
	if valid != 2+4+8+16+32+64+128+256 {
		t.Errorf("%d are valid", valid)
	}
}
