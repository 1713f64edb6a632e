package shard_test

import (
	"maps"
	"slices"

	"zoneappend/api"
)

// What the chapter says, read once more, with a map from blocks to entries in place of a sorted list.

// expectEntry tells whether an entry may stand in a shard.
func expectEntry(e api.Entry) bool {
	switch e.Kind {
	case 1, 2:
	default:
		return false
	}
	if e.Version <= 0 || e.Version > 1099511627776 {
		return false
	}
	if e.Move <= -1 || e.Move >= 256 {
		return false
	}
	return min(e.Block, e.Place.Zone, e.Place.Offset) > -1
}

// expectValid tells whether a list is a shard.
func expectValid(l []api.Entry) bool {
	for i := range l {
		if !expectEntry(l[i]) {
			return false
		}
		for _, later := range l[i+1:] {
			if !(l[i].Block < later.Block) {
				return false
			}
		}
	}
	return true
}

// blocks is the entries of a shard by their blocks.
func blocks(l []api.Entry) map[int]api.Entry {
	m := map[int]api.Entry{}
	for _, e := range l {
		m[e.Block] = e
	}
	return m
}

// listed is the entries of a map in the order of their blocks.
func listed(m map[int]api.Entry) []api.Entry {
	var l []api.Entry
	for _, block := range slices.Sorted(maps.Keys(m)) {
		l = append(l, m[block])
	}
	return l
}

// expectFind is what Find returns.
func expectFind(l []api.Entry, block int) (api.Entry, bool) {
	if !expectValid(l) {
		return none, false
	}
	e, ok := blocks(l)[block]
	return e, ok
}

// expectInstall is what Install returns.
func expectInstall(l []api.Entry, e api.Entry) ([]api.Entry, api.Entry, bool) {
	if !expectValid(l) {
		return nil, none, false
	}
	if !expectEntry(e) {
		return l, none, false
	}
	m := blocks(l)
	old, there := m[e.Block]
	if there && !(old.Version < e.Version) {
		return l, old, false
	}
	m[e.Block] = e
	return listed(m), old, true
}

// expectRelocate is what Relocate returns.
func expectRelocate(l []api.Entry, r move) ([]api.Entry, bool) {
	if !expectValid(l) {
		return nil, false
	}
	m := blocks(l)
	e, ok := m[r.block]
	ok = ok && e.Version == r.version && e.Place.Zone == r.from.Zone && e.Place.Offset == r.from.Offset
	ok = ok && r.to.Zone > -1 && r.to.Offset > -1 && r.move > -1 && r.move < 256
	if !ok {
		return l, false
	}
	m[r.block] = api.Entry{Block: e.Block, Kind: e.Kind, Version: e.Version, Move: r.move, Place: r.to}
	return listed(m), true
}

// expectDrop is what Drop returns.
func expectDrop(l []api.Entry, cut int) (kept, dropped []api.Entry) {
	if !expectValid(l) {
		return nil, nil
	}
	m, old := blocks(l), map[int]api.Entry{}
	for block, e := range m {
		if e.Kind == 2 && cut > e.Version {
			old[block] = e
		}
	}
	for block := range old {
		delete(m, block)
	}
	return listed(m), listed(old)
}
