package l2p_test

import (
	"cmp"
	"math"
	"slices"
	"testing"

	"zoneappend/api"
	"zoneappend/l2p"
)

// Kinds in short.
const (
	data = api.KindData
	trim = api.KindTrim
)

// none is the zero entry.
var none api.Entry

// above and below are numbers far from every limit.
var (
	above = []int{1<<40 + 1, 1 << 62, math.MaxInt - 1, math.MaxInt}
	below = []int{-2, -8, -255, -256, -1 << 32, 1 - 1<<32, -1 << 62, math.MinInt + 1, math.MinInt}
)

// entry is an entry that was never copied. Its place is that of no entry with a block or a version near its own.
func entry(kind, block, version int) api.Entry {
	return api.Entry{Block: block, Kind: kind, Version: version, Place: place(2+version&7, block&63)}
}

// place is a place.
func place(zone, offset int) api.Place { return api.Place{Zone: zone, Offset: offset} }

// byBlock compares entries by their blocks.
func byBlock(a, b api.Entry) int { return cmp.Compare(a.Block, b.Block) }

// spread is a map with n shards that has the entries of a list.
func spread(n int, l ...api.Entry) api.Map {
	m := api.Map{Shards: make([][]api.Entry, n)}
	for _, e := range l {
		m.Shards[e.Block%n] = append(m.Shards[e.Block%n], e)
	}
	for _, s := range m.Shards {
		slices.SortFunc(s, byBlock)
	}
	return m
}

// long is a list of entries, ascending by block, of which each of n shards has as many as rounds. The n blocks before
// those of each round, and all behind the last one, are missing. Each third entry is a tombstone.
func long(n, rounds int) []api.Entry {
	var l []api.Entry
	for k := range rounds {
		for i := range n {
			e := entry(data, (2*k+1)*n+i, 100+len(l)*7%31)
			if len(l)%3 == 1 {
				e.Kind = trim
			}
			l = append(l, e)
		}
	}
	return l
}

// wide is the map with n shards that has the entries of long.
func wide(n, rounds int) api.Map { return spread(n, long(n, rounds)...) }

// ends are the indices of the first, a middle and the last element of a list of n.
func ends(n int) []int { return slices.Compact([]int{0, n / 2, n - 1}) }

// counts are numbers of shards: the least, the greatest, and some between them.
func counts() []int { return []int{1, 2, 3, 5, api.MaxShards} }

// valid are maps with n shards: without entries, with entries in one shard only, and with entries in all.
func valid(n int) []api.Map {
	l := []api.Map{spread(n), {Shards: slices.Repeat([][]api.Entry{{}}, n)}, wide(n, 1), wide(n, 2), wide(n, 5)}
	for _, i := range ends(n) {
		only := spread(n)
		only.Shards[i] = wide(n, 3).Shards[i]
		l = append(l, only)
	}
	return l
}

// copied is a map of its own with the same entries.
func copied(m api.Map) api.Map {
	shards := slices.Clone(m.Shards)
	for i, l := range shards {
		shards[i] = slices.Clone(l)
	}
	return api.Map{Shards: shards}
}

// changed is a map with another list in place of a shard.
func changed(m api.Map, i int, l ...api.Entry) api.Map {
	m = copied(m)
	m.Shards[i] = l
	return m
}

// replaced is a map with another entry at an index of a shard.
func replaced(m api.Map, i, at int, e api.Entry) api.Map {
	m = copied(m)
	m.Shards[i][at] = e
	return m
}

// same tells whether two maps have as many shards, with the same entries.
func same(a, b api.Map) bool { return slices.EqualFunc(a.Shards, b.Shards, slices.Equal) }

// roomy is a copy of a list with others before and behind its own elements, in memory that an append would write to.
func roomy[E any](l []E, other E) (list, whole []E) {
	whole = slices.Concat([]E{other}, l, []E{other, other, other})
	return whole[1 : 1+len(l)], whole
}

// holdStay expects that a map, and all that is before and behind its shards and their entries, is behind a call as it
// was before.
func holdStay(t *testing.T, m api.Map, call func(m api.Map)) {
	t.Helper()
	strange := entry(trim, 1<<50, 9)
	lists := make([][]api.Entry, len(m.Shards))
	wholes := make([][]api.Entry, len(m.Shards))
	for i, l := range m.Shards {
		lists[i], wholes[i] = roomy(l, strange)
	}
	lists, whole := roomy(lists, []api.Entry{strange})
	before, entries := copied(api.Map{Shards: whole}), copied(api.Map{Shards: wholes})
	call(api.Map{Shards: lists})
	if !same(api.Map{Shards: whole}, before) || !same(api.Map{Shards: wholes}, entries) {
		t.Fatalf("%v\nbecame %v", before.Shards, whole)
	}
	if m.Shards == nil {
		call(m)
	}
}

// holdValid expects what Valid says of a map.
func holdValid(t *testing.T, m api.Map, want bool) {
	t.Helper()
	holdStay(t, m, func(m api.Map) {
		t.Helper()
		if l2p.Valid(m) != want {
			t.Fatalf("Valid of %v: %t, want %t", m, !want, want)
		}
	})
}

// holdStripe expects the number that Stripe returns.
func holdStripe(t *testing.T, m api.Map, block, want int) {
	t.Helper()
	holdStay(t, m, func(m api.Map) {
		t.Helper()
		if n := l2p.Stripe(m, block); n != want {
			t.Fatalf("Stripe of the block %d of %d shards: %d, want %d", block, len(m.Shards), n, want)
		}
	})
}

// holdLookup expects what Lookup returns.
func holdLookup(t *testing.T, m api.Map, block int, want api.Entry, found bool) {
	t.Helper()
	holdStay(t, m, func(m api.Map) {
		t.Helper()
		if e, ok := l2p.Lookup(m, block); e != want || ok != found {
			t.Fatalf("Lookup of the block %d in %v\n= %v, %t, want %v, %t", block, m, e, ok, want, found)
		}
	})
}

// holdInstall expects what Install returns.
func holdInstall(t *testing.T, m api.Map, e api.Entry, want api.Map, there api.Entry, done bool) {
	t.Helper()
	holdStay(t, m, func(m api.Map) {
		t.Helper()
		if got, old, ok := l2p.Install(m, e); !same(got, want) || old != there || ok != done {
			t.Fatalf("Install of %v into %v\n= %v, %v, %t\nwant %v, %v, %t", e, m, got, old, ok, want, there, done)
		}
	})
}

// move is what Relocate is asked for.
type move struct {
	block, version int
	from, to       api.Place
	move           int
}

// relocate calls Relocate.
func (r move) relocate(m api.Map) (api.Map, bool) {
	return l2p.Relocate(m, r.block, r.version, r.from, r.to, r.move)
}

// moving is a move of an entry to another place.
func moving(e api.Entry) move { return move{e.Block, e.Version, e.Place, place(40, 50), 9} }

// moved is an entry behind its move.
func (r move) moved(e api.Entry) api.Entry {
	return api.Entry{Block: e.Block, Kind: e.Kind, Version: e.Version, Move: r.move, Place: r.to}
}

// holdRelocate expects what Relocate returns.
func holdRelocate(t *testing.T, m api.Map, r move, want api.Map, done bool) {
	t.Helper()
	holdStay(t, m, func(m api.Map) {
		t.Helper()
		if got, ok := r.relocate(m); !same(got, want) || ok != done {
			t.Fatalf("Relocate of %+v in %v\n= %v, %t\nwant %v, %t", r, m, got, ok, want, done)
		}
	})
}

// holdDrop expects what Drop returns.
func holdDrop(t *testing.T, m api.Map, stripe, cut int, want api.Map, dropped []api.Entry) {
	t.Helper()
	holdStay(t, m, func(m api.Map) {
		t.Helper()
		if got, l := l2p.Drop(m, stripe, cut); !same(got, want) || !slices.Equal(l, dropped) {
			t.Fatalf("Drop of the shard %d of %v with the cut %d\n= %v, %v\nwant %v, %v", stripe, m, cut, got, l, want, dropped)
		}
	})
}

// holdAll expects what All returns.
func holdAll(t *testing.T, m api.Map, want []api.Entry) {
	t.Helper()
	holdStay(t, m, func(m api.Map) {
		t.Helper()
		if l := l2p.All(m); !slices.Equal(l, want) {
			t.Fatalf("All of %v\n= %v\nwant %v", m, l, want)
		}
	})
}

// holdNothing expects that nothing comes of an entry, of a move of it, and of a look for its block.
func holdNothing(t *testing.T, m api.Map, e api.Entry) {
	t.Helper()
	holdLookup(t, m, e.Block, none, false)
	holdInstall(t, m, e, m, none, false)
	holdRelocate(t, m, moving(e), m, false)
}

// refuse expects that a map is not valid, and that nothing comes of it.
func refuse(t *testing.T, m api.Map) {
	t.Helper()
	holdValid(t, m, false)
	holdAll(t, m, nil)
	asked := slices.Concat(m.Shards...)
	if len(asked) > 12 {
		asked = slices.Concat(asked[:6], asked[len(asked)-6:])
	}
	for block := range 10 {
		asked = append(asked, entry(data, block, 1<<40))
	}
	for _, e := range append(asked, none, entry(trim, 1<<50, 9), entry(data, -1, 4)) {
		holdNothing(t, m, e)
		e.Version++
		holdInstall(t, m, e, m, none, false)
	}
	n := len(m.Shards)
	for _, stripe := range []int{-1, 0, 1, n / 2, n - 1, n, math.MaxInt, math.MinInt} {
		for _, cut := range []int{1, 200, math.MaxInt, math.MinInt} {
			holdDrop(t, m, stripe, cut, m, nil)
		}
	}
}
