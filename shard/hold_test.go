package shard_test

import (
	"math"
	"slices"
	"testing"

	"zoneappend/api"
	"zoneappend/shard"
)

// Kinds in short.
const (
	data = api.KindData
	trim = api.KindTrim
)

// none is the zero entry.
var none api.Entry

// above and below are numbers far from every limit.
var (
	above = []int{1<<40 + 1, 1 << 62, math.MaxInt - 1, math.MaxInt}
	below = []int{-2, -255, -256, -1 << 32, 1 - 1<<32, -1 << 40, -1 << 62, math.MinInt + 1, math.MinInt}
)

// entry is an entry that was never copied.
func entry(kind, block, version int) api.Entry {
	return api.Entry{Block: block, Kind: kind, Version: version, Place: place(10+version%7, block)}
}

// place is a place.
func place(zone, offset int) api.Place { return api.Place{Zone: zone, Offset: offset} }

// entries is a list of entries.
func entries(l ...api.Entry) []api.Entry { return l }

// long is a shard with n entries of even blocks from 2 on, in which each third entry is a tombstone.
func long(n int) []api.Entry {
	l := make([]api.Entry, n)
	for i := range l {
		l[i] = entry(data, 2*i+2, 100+i*37%n)
		if i%3 == 1 {
			l[i].Kind = trim
		}
	}
	return l
}

// ends are the indices of the first, a middle and the last element of a list of n.
func ends(n int) []int { return slices.Compact([]int{0, n / 2, n - 1}) }

// changed is a list with another entry at an index.
func changed(l []api.Entry, i int, e api.Entry) []api.Entry {
	l = slices.Clone(l)
	l[i] = e
	return l
}

// same tells whether two lists have the same entries.
func same(a, b []api.Entry) bool { return slices.Equal(a, b) }

// roomy is a copy of a list with other entries before and behind its own, in memory that an append would write to.
func roomy(l []api.Entry) (list, whole []api.Entry) {
	whole = slices.Concat(entries(entry(trim, 0, 3)), l, entries(entry(data, 1<<60, 5), entry(data, -4, 0), none))
	return whole[1 : 1+len(l)], whole
}

// holdStay expects that a list, and all that is before and behind it, is behind a call as it was before.
func holdStay(t *testing.T, l []api.Entry, call func(l []api.Entry)) {
	t.Helper()
	list, whole := roomy(l)
	before := slices.Clone(whole)
	call(list)
	if !same(whole, before) {
		t.Fatalf("%v\nbecame %v", before, whole)
	}
	if l == nil {
		call(nil)
	}
}

// holdValid expects what Valid says of a list.
func holdValid(t *testing.T, l []api.Entry, want bool) {
	t.Helper()
	holdStay(t, l, func(l []api.Entry) {
		t.Helper()
		if shard.Valid(l) != want {
			t.Fatalf("Valid of %v: %t, want %t", l, !want, want)
		}
	})
}

// holdFind expects what Find returns.
func holdFind(t *testing.T, l []api.Entry, block int, want api.Entry, found bool) {
	t.Helper()
	holdStay(t, l, func(l []api.Entry) {
		t.Helper()
		if e, ok := shard.Find(l, block); e != want || ok != found {
			t.Fatalf("Find of the block %d in %v\n= %v, %t, want %v, %t", block, l, e, ok, want, found)
		}
	})
}

// holdInstall expects what Install returns.
func holdInstall(t *testing.T, l []api.Entry, e api.Entry, want []api.Entry, there api.Entry, done bool) {
	t.Helper()
	holdStay(t, l, func(l []api.Entry) {
		t.Helper()
		if got, old, ok := shard.Install(l, e); !same(got, want) || old != there || ok != done {
			t.Fatalf("Install of %v into %v\n= %v, %v, %t\nwant %v, %v, %t", e, l, got, old, ok, want, there, done)
		}
	})
}

// move is what Relocate is asked for.
type move struct {
	block, version int
	from, to       api.Place
	move           int
}

// relocate calls Relocate.
func (m move) relocate(l []api.Entry) ([]api.Entry, bool) {
	return shard.Relocate(l, m.block, m.version, m.from, m.to, m.move)
}

// moving is a move of an entry to another place.
func moving(e api.Entry) move { return move{e.Block, e.Version, e.Place, place(40, 50), 9} }

// holdRelocate expects what Relocate returns.
func holdRelocate(t *testing.T, l []api.Entry, m move, want []api.Entry, done bool) {
	t.Helper()
	holdStay(t, l, func(l []api.Entry) {
		t.Helper()
		if got, ok := m.relocate(l); !same(got, want) || ok != done {
			t.Fatalf("Relocate of %+v in %v\n= %v, %t\nwant %v, %t", m, l, got, ok, want, done)
		}
	})
}

// holdDrop expects what Drop returns.
func holdDrop(t *testing.T, l []api.Entry, cut int, kept, dropped []api.Entry) {
	t.Helper()
	holdStay(t, l, func(l []api.Entry) {
		t.Helper()
		if k, d := shard.Drop(l, cut); !same(k, kept) || !same(d, dropped) {
			t.Fatalf("Drop of %v with the cut %d\n= %v, %v\nwant %v, %v", l, cut, k, d, kept, dropped)
		}
	})
}

// refuse expects that a list is no shard, and that nothing comes of it.
func refuse(t *testing.T, l []api.Entry) {
	t.Helper()
	holdValid(t, l, false)
	asked := slices.Concat(l, entries(none, entry(data, 0, 1), entry(data, 3, 1<<40), entry(trim, 1<<50, 9), entry(data, -1, 4)))
	if len(asked) > 40 {
		asked = slices.Concat(asked[:9], asked[len(asked)-9:])
	}
	for _, e := range asked {
		holdFind(t, l, e.Block, none, false)
		holdRelocate(t, l, moving(e), nil, false)
		holdInstall(t, l, e, nil, none, false)
		e.Version++
		holdInstall(t, l, e, nil, none, false)
	}
	for _, cut := range slices.Concat([]int{0, 1, 2, 100, -1}, above, below) {
		holdDrop(t, l, cut, nil, nil)
		holdFind(t, l, cut, none, false)
	}
}
