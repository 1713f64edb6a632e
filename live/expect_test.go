package live_test

import (
	"slices"

	"zoneappend/api"
)

// What the chapter says, read once more, with what is added to each zone in place of new counters.

// expectValid tells whether counters are valid.
func expectValid(c api.Counts) bool {
	n := len(c.Live)
	if n != len(c.Pending) || n == 0 || n > 32 {
		return false
	}
	all := slices.Concat(c.Live, c.Pending)
	return slices.Min(all) > -1 && slices.Max(all) < 1099511627777
}

// sums is the numbers of a list with something added to some of them; false if one of these is not there, or becomes
// what no counter may be.
func sums(l []int, more map[int]int) ([]int, bool) {
	l = slices.Clone(l)
	for zone, n := range more {
		if zone < 0 || zone > len(l)-1 {
			return nil, false
		}
		l[zone] += n
		if l[zone] < 0 || l[zone] > 1099511627776 {
			return nil, false
		}
	}
	return l, true
}

// expectPending is what Begin and End return, which add 1 or -1.
func expectPending(c api.Counts, zone, n int) (api.Counts, bool) {
	l, ok := sums(c.Pending, map[int]int{zone: n})
	if !ok || !expectValid(c) {
		return c, false
	}
	return api.Counts{Live: c.Live, Pending: l}, true
}

// expectChange is what Change returns.
func expectChange(c api.Counts, x change) (api.Counts, bool) {
	more := map[int]int{}
	if x.had {
		more[x.old.Place.Zone]--
	}
	if x.has {
		more[x.fresh.Place.Zone]++
	}
	l, ok := sums(c.Live, more)
	if !ok || !expectValid(c) {
		return c, false
	}
	return api.Counts{Live: l, Pending: c.Pending}, true
}

// expectClear tells what Clear says.
func expectClear(c api.Counts, zone int) bool {
	if !expectValid(c) {
		return false
	}
	for i := range c.Live {
		if i == zone {
			return c.Live[i]+c.Pending[i] == 0
		}
	}
	return false
}

// expectOf is what Of returns.
func expectOf(zones int, l []api.Entry) (api.Counts, bool) {
	if zones < 1 || zones > 32 {
		return api.Counts{}, false
	}
	c, counted := api.Counts{}, 0
	for zone := range zones {
		n := 0
		for _, e := range l {
			if e.Place.Zone == zone {
				n++
			}
		}
		c.Live, c.Pending = append(c.Live, n), append(c.Pending, 0)
		counted += n
	}
	if counted < len(l) {
		return api.Counts{}, false
	}
	return c, true
}
