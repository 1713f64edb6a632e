package locks_test

import (
	"slices"

	"zoneappend/api"
)

// What the chapter says, read once more, with a list of the holders of each stripe in place of owners.

// expectValid tells whether locks are valid.
func expectValid(l api.Locks) bool {
	n := len(l.Owner)
	return n > 0 && n < 9 && !slices.ContainsFunc(l.Owner, func(owner int) bool { return owner < -1 })
}

// holders are the threads that hold a stripe: none or one, and none of what is no stripe of valid locks, which there is not.
func holders(l api.Locks, stripe int) (threads []int, there bool) {
	if !expectValid(l) || stripe < 0 || stripe > len(l.Owner)-1 {
		return nil, false
	}
	if owner := l.Owner[stripe]; owner > -1 {
		return []int{owner}, true
	}
	return nil, true
}

// expectFree tells what Free says.
func expectFree(l api.Locks, stripe int) bool {
	threads, there := holders(l, stripe)
	return there && len(threads) == 0
}

// owned is locks in which only one stripe has another owner.
func owned(l api.Locks, stripe, owner int) api.Locks {
	return of(slices.Concat(l.Owner[:stripe], []int{owner}, l.Owner[stripe+1:])...)
}

// expectTake is what Take returns.
func expectTake(l api.Locks, stripe, thread int) (api.Locks, bool) {
	if thread <= -1 || !expectFree(l, stripe) {
		return l, false
	}
	return owned(l, stripe, thread), true
}

// expectGive is what Give returns.
func expectGive(l api.Locks, stripe, thread int) (api.Locks, bool) {
	threads, _ := holders(l, stripe)
	if !slices.Contains(threads, thread) {
		return l, false
	}
	return owned(l, stripe, -1), true
}

// expectHeld is what Held returns, also of locks that are not valid.
func expectHeld(l api.Locks, thread int) []int {
	var stripes []int
	for stripe, owner := range l.Owner {
		if owner == thread && thread > -1 {
			stripes = append(stripes, stripe)
		}
	}
	return stripes
}
