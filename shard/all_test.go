package shard_test

import (
	"slices"
	"testing"

	"zoneappend/api"
)

// variants are entries of few blocks, some of which no shard has.
func variants() []api.Entry {
	e := api.Entry{Block: 1, Kind: data, Version: 2, Move: 1, Place: place(0, 1)}
	l := entries(e)
	for _, change := range []func(e *api.Entry){
		func(e *api.Entry) { e.Kind = trim },
		func(e *api.Entry) { e.Kind = 3 },
		func(e *api.Entry) { e.Version = 1 },
		func(e *api.Entry) { e.Version = 3 },
		func(e *api.Entry) { e.Version = 0 },
		func(e *api.Entry) { e.Move = 256 },
		func(e *api.Entry) { e.Place = place(1, 0) },
		func(e *api.Entry) { e.Place.Zone = -1 },
		func(e *api.Entry) { e.Block = 0 },
		func(e *api.Entry) { e.Block, e.Kind = 0, trim },
		func(e *api.Entry) { e.Block, e.Kind, e.Version = 2, trim, 1 },
		func(e *api.Entry) { e.Block, e.Kind, e.Version = 3, data, 1<<40 },
		func(e *api.Entry) { e.Block = -1 },
	} {
		x := e
		change(&x)
		l = append(l, x)
	}
	return l
}

// moves are what Relocate is asked for, of few blocks.
func moves() []move {
	var l []move
	for block := -1; block <= 3; block++ {
		for _, version := range []int{1, 2, 1 << 40} {
			for _, from := range []api.Place{place(0, 1), place(1, 0), place(-1, 1)} {
				l = append(l, move{block, version, from, place(5, 6), 7}, move{block, version, from, place(0, 0), 256})
			}
		}
	}
	return l
}

// each calls back with all lists of as many entries as n, and of fewer.
func each(n int, among []api.Entry, call func(l []api.Entry)) {
	var extend func(l []api.Entry)
	extend = func(l []api.Entry) {
		call(l)
		if len(l) == n {
			return
		}
		for _, e := range among {
			extend(append(slices.Clip(l), e))
		}
	}
	extend(nil)
}

// TestAllSmallLists has all calls of all lists of up to three entries, held against a second reading of the chapter.
func TestAllSmallLists(t *testing.T) {
	asked := moves()
	shards := 0
	each(3, variants(), func(l []api.Entry) {
		valid := expectValid(l)
		holdValid(t, l, valid)
		if valid {
			shards++
		}
		for block := -2; block <= 4; block++ {
			e, ok := expectFind(l, block)
			holdFind(t, l, block, e, ok)
		}
		for _, e := range variants() {
			want, old, ok := expectInstall(l, e)
			holdInstall(t, l, e, want, old, ok)
		}
		for _, m := range asked {
			want, ok := expectRelocate(l, m)
			holdRelocate(t, l, m, want, ok)
		}
		for cut := -1; cut <= 4; cut++ {
			kept, dropped := expectDrop(l, cut)
			holdDrop(t, l, cut, kept, dropped)
		}
	})
	if shards < 50 {
		t.Errorf("only %d shards", shards)
	}
}

// holdGreatest installs entries one after the other and expects each block to have the one with its greatest version, of these the first one.
func holdGreatest(t *testing.T, l []api.Entry) {
	t.Helper()
	var list []api.Entry
	greatest := map[int]api.Entry{}
	for _, e := range l {
		old, there := greatest[e.Block]
		next, got, ok := installed(t, list, e)
		if got != old || ok != (!there || old.Version < e.Version) {
			t.Fatalf("Install of %v into %v: %v, %t", e, list, got, ok)
		}
		if ok {
			greatest[e.Block] = e
		}
		list = next
	}
	if !same(list, listed(greatest)) {
		t.Fatalf("%v\nlead to %v, want %v", l, list, listed(greatest))
	}
}

// TestAllInstalls has all rows of five installs of few entries.
func TestAllInstalls(t *testing.T) {
	var among []api.Entry
	for version := 1; version <= 3; version++ {
		among = append(among, entry(data, 3, version), entry(trim, 8, version))
	}
	among = append(among, api.Entry{Block: 3, Kind: trim, Version: 2, Move: 4, Place: place(9, 9)})
	each(5, among, func(l []api.Entry) { holdGreatest(t, l) })
}

// TestAllOrders has one list of entries, installed in all orders: the shard is always the same.
func TestAllOrders(t *testing.T) {
	l := entries(entry(data, 5, 1), entry(trim, 5, 7), entry(data, 5, 4), entry(data, 0, 1<<40), entry(data, 0, 3), entry(trim, 9, 2), entry(data, 2, 9))
	want := entries(l[3], l[6], l[1], l[5])
	orders := 0
	var permute func(n int)
	permute = func(n int) {
		if n == len(l) {
			orders++
			var list []api.Entry
			for _, e := range l {
				list, _, _ = installed(t, list, e)
			}
			if !same(list, want) {
				t.Fatalf("%v\nlead to %v, want %v", l, list, want)
			}
			return
		}
		for i := n; i < len(l); i++ {
			l[n], l[i] = l[i], l[n]
			permute(n + 1)
			l[n], l[i] = l[i], l[n]
		}
	}
	permute(0)
	if orders != 5040 {
		t.Errorf("%d orders", orders)
	}
}
