package pool_test

import (
	"slices"
	"testing"

	"zoneappend/api"
	"zoneappend/pool"
)

// lists are all lists of up to n elements of another one.
func lists(n int, among []int) [][]int {
	all, longest := [][]int{nil}, [][]int{nil}
	for range n {
		var longer [][]int
		for _, l := range longest {
			for _, e := range among {
				longer = append(longer, append(slices.Clip(l), e))
			}
		}
		all, longest = append(all, longer...), longer
	}
	return all
}

// subsets are all lists that have some of the elements of another one, in their order.
func subsets(of []int) [][]int {
	all := [][]int{nil}
	for _, e := range of {
		for _, l := range all {
			all = append(all, append(slices.Clip(l), e))
		}
	}
	return all
}

// holdAll holds all calls of a pool, of some zones, against the second reading of the chapter.
func holdAll(t *testing.T, p api.Pool, c api.Config, zones []int) {
	t.Helper()
	holdValid(t, p, c, expectValid(p, c))
	want, ok := expectHost(p, c)
	holdCall(t, p, c, host, want, ok)
	want, ok = expectCleaner(p, c)
	holdCall(t, p, c, cleaner, want, ok)
	want, ok = expectLeave(p, c, true)
	holdCall(t, p, c, leaveHost, want, ok)
	want, ok = expectLeave(p, c, false)
	holdCall(t, p, c, leaveCleaner, want, ok)
	for _, zone := range zones {
		want, ok = expectPut(p, c, zone)
		holdCall(t, p, c, put(zone), want, ok)
	}
}

// TestAllPools has all calls of all pools of six data zones whose free zones ascend, with all lanes.
func TestAllPools(t *testing.T) {
	near := zones(-2, small.last+2)
	valid := 0
	for _, free := range subsets(small.all()) {
		for _, h := range near {
			for _, x := range near {
				p := of(h, x, free...)
				holdAll(t, p, small.c, near)
				if pool.Valid(p, small.c) {
					valid++
				}
			}
		}
	}
	// Each zone is free or not, but for one or two that are lanes.
	if want := 64 + 2*6*32 + 6*5*16; valid != want {
		t.Errorf("%d are valid, want %d", valid, want)
	}
}

// TestAllLists has all calls of all pools with up to three free zones of any kind in any order, with few lanes.
func TestAllLists(t *testing.T) {
	near := zones(-1, small.last+1)
	valid := 0
	for _, free := range lists(3, near) {
		for _, pair := range [][2]int{{-1, -1}, {2, -1}, {-1, 4}, {7, 3}, {4, 4}} {
			p := of(pair[0], pair[1], free...)
			holdAll(t, p, small.c, near[:6])
			if pool.Valid(p, small.c) {
				valid++
			}
		}
	}
	// Up to three of the zones that are no lanes: of six, of five (twice), and of four.
	if want := (1 + 6 + 15 + 20) + 2*(1+5+10+10) + (1 + 4 + 6 + 4); valid != want {
		t.Errorf("%d are valid, want %d", valid, want)
	}
}

// TestAllLongLists has all calls of all pools with up to five free zones of a few in any order.
func TestAllLongLists(t *testing.T) {
	for _, free := range lists(5, []int{1, 2, 4, 5, 7}) {
		for _, pair := range [][2]int{{-1, -1}, {3, -1}, {-1, 5}} {
			holdAll(t, of(pair[0], pair[1], free...), small.c, []int{2, 3, 5})
		}
	}
}

// TestAllOfShapes has all calls of the pools of all shapes, also with the configurations of the other ones.
func TestAllOfShapes(t *testing.T) {
	for _, s := range shapes {
		for _, p := range s.pools() {
			for _, other := range shapes {
				holdAll(t, p, other.c, []int{-1, s.first - 1, s.first, s.first + 2, s.last, s.last + 1})
			}
		}
	}
}
