package l2p_test

import (
	"maps"
	"slices"

	"zoneappend/api"
)

// What the chapter says, read once more, with one map from blocks to entries in place of the shards.

// expectEntry tells whether an entry may stand in a shard.
func expectEntry(e api.Entry) bool {
	kind := e.Kind == 1 || e.Kind == 2
	version := e.Version > 0 && e.Version <= 1099511627776
	copies := e.Move > -1 && e.Move < 256
	return kind && version && copies && min(e.Block, e.Place.Zone, e.Place.Offset) > -1
}

// expectValid tells whether a map is valid.
func expectValid(m api.Map) bool {
	n := len(m.Shards)
	if n == 0 || n > 8 {
		return false
	}
	for i, l := range m.Shards {
		for j, e := range l {
			if !expectEntry(e) || (e.Block-i)%n != 0 {
				return false
			}
			for _, later := range l[j+1:] {
				if later.Block <= e.Block {
					return false
				}
			}
		}
	}
	return true
}

// known is the entries of a valid map by their blocks.
func known(m api.Map) map[int]api.Entry {
	k := map[int]api.Entry{}
	for _, l := range m.Shards {
		for _, e := range l {
			k[e.Block] = e
		}
	}
	return k
}

// listed is the entries in the order of their blocks.
func listed(k map[int]api.Entry) []api.Entry {
	var l []api.Entry
	for _, block := range slices.Sorted(maps.Keys(k)) {
		l = append(l, k[block])
	}
	return l
}

// expectAll is what All returns.
func expectAll(m api.Map) []api.Entry {
	if !expectValid(m) {
		return nil
	}
	return listed(known(m))
}

// expectLookup is what Lookup returns.
func expectLookup(m api.Map, block int) (api.Entry, bool) {
	if !expectValid(m) {
		return none, false
	}
	e, ok := known(m)[block]
	return e, ok
}

// expectInstall is what Install returns.
func expectInstall(m api.Map, e api.Entry) (api.Map, api.Entry, bool) {
	if !expectValid(m) || !expectEntry(e) {
		return m, none, false
	}
	k := known(m)
	old, there := k[e.Block]
	if there && !(old.Version < e.Version) {
		return m, old, false
	}
	k[e.Block] = e
	return spread(len(m.Shards), listed(k)...), old, true
}

// expectRelocate is what Relocate returns.
func expectRelocate(m api.Map, r move) (api.Map, bool) {
	if !expectValid(m) {
		return m, false
	}
	k := known(m)
	e, ok := k[r.block]
	ok = ok && e.Version == r.version && e.Place == r.from
	ok = ok && min(r.to.Zone, r.to.Offset) > -1 && r.move > -1 && r.move < 256
	if !ok {
		return m, false
	}
	k[r.block] = r.moved(e)
	return spread(len(m.Shards), listed(k)...), true
}

// expectDrop is what Drop returns.
func expectDrop(m api.Map, stripe, cut int) (api.Map, []api.Entry) {
	if !expectValid(m) {
		return m, nil
	}
	k, old := known(m), map[int]api.Entry{}
	for block, e := range k {
		if block%len(m.Shards) == stripe && e.Kind == 2 && cut > e.Version {
			old[block] = e
		}
	}
	for block := range old {
		delete(k, block)
	}
	return spread(len(m.Shards), listed(k)...), listed(old)
}
