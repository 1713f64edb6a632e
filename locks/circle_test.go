package locks_test

import (
	"slices"
	"testing"

	"zoneappend/api"
	"zoneappend/locks"
)

// step is a call of a thread: it takes a stripe, or gives it back.
type step struct {
	stripe int
	give   bool
}

// plan is the steps of a thread, one behind the other; it waits with each one until it is possible.
type plan []step

// takes is a plan that takes stripes, and then gives stripes back.
func takes(taken, given []int) plan {
	var p plan
	for _, stripe := range taken {
		p = append(p, step{stripe, false})
	}
	for _, stripe := range given {
		p = append(p, step{stripe, true})
	}
	return p
}

// ascending are plans of threads that take several stripes of three only in ascending order.
func ascending() []plan {
	var all []plan
	for _, set := range sets(3)[1:] {
		back := slices.Clone(set)
		slices.Reverse(back)
		all = append(all, takes(set, set), takes(set, back))
	}
	relay := slices.Concat(takes([]int{0, 1}, []int{0}), takes([]int{2}, []int{1, 2}))
	again := slices.Concat(takes([]int{1, 2}, []int{1, 2}), takes([]int{0, 1}, []int{1, 0}))
	return append(all, relay, again)
}

// single are plans of threads that hold one stripe of three at most, in any order.
func single() []plan {
	var all []plan
	for _, order := range [][]int{{0, 1, 2}, {0, 2, 1}, {1, 0, 2}, {1, 2, 0}, {2, 0, 1}, {2, 1, 0}} {
		var p plan
		for _, stripe := range order {
			p = append(p, step{stripe, false}, step{stripe, true})
		}
		all = append(all, p)
	}
	return all
}

// round is three threads with their plans, and all states that were found: how many steps each thread has done.
type round struct {
	plans []plan
	seen  map[[3]int]bool
	stuck int
}

// explore does all steps that are possible, in all orders, and counts the states in which all that have steps left wait.
func (r *round) explore(t *testing.T, l api.Locks, done [3]int) {
	t.Helper()
	if r.seen[done] {
		return
	}
	r.seen[done] = true
	waiting, moved := 0, 0
	for thread, p := range r.plans {
		if done[thread] == len(p) {
			continue
		}
		s := p[done[thread]]
		call := locks.Take
		if s.give {
			call = locks.Give
		}
		next, ok := call(l, s.stripe, thread)
		if !ok && s.give {
			t.Fatalf("%d cannot give the stripe %d of %v back", thread, s.stripe, l)
		}
		if !ok {
			waiting++
			continue
		}
		moved++
		behind := done
		behind[thread]++
		r.explore(t, next, behind)
	}
	if waiting > 0 && moved == 0 {
		r.stuck++
	}
}

// explored is what became of three threads with these plans.
func explored(t *testing.T, plans ...plan) *round {
	t.Helper()
	r := &round{plans: plans, seen: map[[3]int]bool{}}
	r.explore(t, made(t, 3), [3]int{})
	return r
}

// TestNoCircles has three threads that take several stripes only in ascending order, or hold one at most: in no order of
// their steps do they wait in a circle, and all come to their ends.
func TestNoCircles(t *testing.T) {
	all := slices.Concat(ascending(), single())
	for i, a := range all {
		for j, b := range all[:i+1] {
			for _, c := range all[:j+1] {
				r := explored(t, a, b, c)
				if r.stuck > 0 || !r.seen[[3]int{len(a), len(b), len(c)}] {
					t.Fatalf("%d circles: %v, %v, %v", r.stuck, a, b, c)
				}
			}
		}
	}
}

// TestCircles has threads that take stripes in other orders, and wait in circles: these would be found.
func TestCircles(t *testing.T) {
	up, down := takes([]int{0, 1}, []int{0, 1}), takes([]int{1, 0}, []int{0, 1})
	if r := explored(t, up, down, nil); r.stuck != 1 {
		t.Errorf("%d circles of two", r.stuck)
	}
	one, two, three := takes([]int{0, 1}, []int{0, 1}), takes([]int{1, 2}, []int{1, 2}), takes([]int{2, 0}, []int{0, 2})
	if r := explored(t, one, two, three); r.stuck != 1 {
		t.Errorf("%d circles of three", r.stuck)
	}
	twice := takes([]int{1, 1}, []int{1})
	if r := explored(t, twice, nil, nil); r.stuck != 1 {
		t.Errorf("%d circles of one", r.stuck)
	}
}
