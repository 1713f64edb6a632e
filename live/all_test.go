package live_test

import (
	"slices"
	"testing"

	"zoneappend/api"
	"zoneappend/live"
)

// lists are all lists of up to n elements of another one.
func lists[E any](n int, among []E) [][]E {
	all, longest := [][]E{nil}, [][]E{nil}
	for range n {
		var longer [][]E
		for _, l := range longest {
			for _, e := range among {
				longer = append(longer, append(slices.Clip(l), e))
			}
		}
		all, longest = append(all, longer...), longer
	}
	return all
}

// holdCalls holds all calls of counters against the second reading of the chapter.
func holdCalls(t *testing.T, c api.Counts) {
	t.Helper()
	holdValid(t, c, expectValid(c))
	for zone := -1; zone <= len(c.Live)+1; zone++ {
		want, ok := expectPending(c, zone, 1)
		holdBegin(t, c, zone, want, ok)
		want, ok = expectPending(c, zone, -1)
		holdEnd(t, c, zone, want, ok)
		holdClear(t, c, zone, expectClear(c, zone))
		for fresh := -1; fresh <= len(c.Live)+1; fresh++ {
			for _, used := range ways() {
				x := change{in(zone), in(fresh), used[0], used[1]}
				want, ok = expectChange(c, x)
				holdOneChange(t, c, x, want, ok)
				x.old.Version++
				holdOneChange(t, c, x, want, ok)
			}
		}
	}
}

// TestAllOfFewNumbers has all calls of all counters of up to two zones with numbers at the limits, just behind them, and between them.
func TestAllOfFewNumbers(t *testing.T) {
	valid := 0
	all := lists(2, []int{-1, 0, 1, 2, most - 1, most, most + 1})
	for _, records := range all {
		for _, appends := range all {
			c := api.Counts{Live: records, Pending: appends}
			holdCalls(t, c)
			if live.Valid(c) {
				valid++
			}
		}
	}
	if valid != 5*5+25*25 {
		t.Errorf("%d are valid", valid)
	}
}

// TestAllOfThreeZones has all calls of all counters of three zones with numbers at the limits.
func TestAllOfThreeZones(t *testing.T) {
	for _, l := range lists(6, []int{0, 1, most}) {
		if len(l) == 6 {
			holdCalls(t, api.Counts{Live: l[:3], Pending: l[3:]})
		}
	}
}

// TestAllEntries has Of of all lists of up to five entries, with each small number of zones.
func TestAllEntries(t *testing.T) {
	for _, l := range lists(5, []api.Entry{in(0), in(1), in(2), none, in(4), in(-1)}) {
		for zones := -1; zones <= 6; zones++ {
			want, ok := expectOf(zones, l)
			holdOf(t, zones, l, want, ok)
		}
	}
}

// TestAllSmallChanges has all pairs of few entries, equal ones, ones in the same zone, and ones in others, in all four ways.
func TestAllSmallChanges(t *testing.T) {
	var entries []api.Entry
	for zone := -1; zone <= 3; zone++ {
		entries = append(entries, in(zone))
		entries = append(entries, others(in(zone))...)
	}
	for _, records := range lists(3, []int{0, 1, most}) {
		c := api.Counts{Live: records, Pending: make([]int, len(records))}
		for _, old := range entries {
			for _, fresh := range entries {
				for _, used := range ways() {
					x := change{old, fresh, used[0], used[1]}
					want, ok := expectChange(c, x)
					holdOneChange(t, c, x, want, ok)
				}
			}
		}
	}
}
