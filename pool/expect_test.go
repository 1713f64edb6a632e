package pool_test

import (
	"slices"

	"zoneappend/api"
	"zoneappend/layout"
)

// What the chapter says, read once more: a pool is valid if its free zones ascend and all its zones are different data zones.

// expectZones are the zones of a pool: those that are free, and those of its lanes.
func expectZones(p api.Pool) []int {
	l := slices.Clone(p.Free)
	for _, lane := range []int{p.Host, p.Cleaner} {
		if lane != -1 {
			l = append(l, lane)
		}
	}
	slices.Sort(l)
	return l
}

// expectValid tells whether a pool is valid.
func expectValid(p api.Pool, c api.Config) bool {
	l, err := layout.Of(c)
	all := expectZones(p)
	for _, zone := range all {
		if zone < l.First || zone > l.First+l.Data-1 {
			return false
		}
	}
	return err == api.OK && slices.IsSorted(p.Free) && len(slices.Compact(slices.Clone(all))) == len(all)
}

// expectPut is what Put returns: a zone can be put if the pool with it is valid.
func expectPut(p api.Pool, c api.Config, zone int) (api.Pool, bool) {
	free := slices.Concat([]int{zone}, p.Free)
	slices.Sort(free)
	more := of(p.Host, p.Cleaner, free...)
	if !expectValid(p, c) || !expectValid(more, c) {
		return p, false
	}
	return more, true
}

// expectHost is what Host returns.
func expectHost(p api.Pool, c api.Config) (api.Pool, bool) {
	if !expectValid(p, c) || p.Host >= 0 || len(p.Free) < 3 {
		return p, false
	}
	zone := slices.Min(p.Free)
	return of(zone, p.Cleaner, except(p.Free, zone)...), true
}

// expectCleaner is what Cleaner returns.
func expectCleaner(p api.Pool, c api.Config) (api.Pool, bool) {
	if !expectValid(p, c) || p.Cleaner >= 0 || len(p.Free) < 1 {
		return p, false
	}
	zone := slices.Min(p.Free)
	return of(p.Host, zone, except(p.Free, zone)...), true
}

// expectLeave is what Leave returns: a lane can be left if it has a zone that the pool is without then.
func expectLeave(p api.Pool, c api.Config, host bool) (api.Pool, bool) {
	less := of(p.Host, -1, p.Free...)
	if host {
		less = of(-1, p.Cleaner, p.Free...)
	}
	if !expectValid(p, c) || len(expectZones(less)) == len(expectZones(p)) {
		return p, false
	}
	return less, true
}
