package l2p_test

import (
	"slices"
	"testing"

	"zoneappend/api"
	"zoneappend/l2p"
)

// variants are entries of few blocks, some of which no shard has.
func variants() []api.Entry {
	e := api.Entry{Block: 1, Kind: data, Version: 2, Move: 1, Place: place(0, 1)}
	l := []api.Entry{e}
	for _, change := range []func(e *api.Entry){
		func(e *api.Entry) { e.Kind, e.Version = trim, 3 },
		func(e *api.Entry) { e.Version, e.Place = 1, place(1, 0) },
		func(e *api.Entry) { e.Kind = 3 },
		func(e *api.Entry) { e.Place.Zone = -1 },
		func(e *api.Entry) { e.Block, e.Kind = 0, trim },
		func(e *api.Entry) { e.Block, e.Kind, e.Version = 2, trim, 1 },
		func(e *api.Entry) { e.Block, e.Version = 3, 1<<40 },
		func(e *api.Entry) { e.Block = 4 },
		func(e *api.Entry) { e.Block = -1 },
	} {
		x := e
		change(&x)
		l = append(l, x)
	}
	return l
}

// moves are what Relocate is asked for, of few blocks.
func moves() []move {
	var l []move
	for block := -1; block <= 5; block++ {
		for _, from := range []api.Place{place(0, 1), place(1, 0)} {
			l = append(l, move{block, 2, from, place(5, 6), 7}, move{block, 1, from, place(0, 0), 255}, move{block, 2, from, place(0, 0), 256})
		}
	}
	return l
}

// lists are all lists of up to n elements of another one.
func lists[E any](n int, among []E) [][]E {
	all, longest := [][]E{nil}, [][]E{nil}
	for range n {
		var longer [][]E
		for _, l := range longest {
			for _, e := range among {
				longer = append(longer, append(slices.Clip(l), e))
			}
		}
		all, longest = append(all, longer...), longer
	}
	return all
}

// holdCalls holds all calls of a map against the second reading of the chapter.
func holdCalls(t *testing.T, m api.Map, entries []api.Entry, asked []move) {
	t.Helper()
	holdValid(t, m, expectValid(m))
	holdAll(t, m, expectAll(m))
	for block := -2; block <= 6; block++ {
		e, ok := expectLookup(m, block)
		holdLookup(t, m, block, e, ok)
	}
	for _, e := range entries {
		want, old, ok := expectInstall(m, e)
		holdInstall(t, m, e, want, old, ok)
	}
	for _, r := range asked {
		want, ok := expectRelocate(m, r)
		holdRelocate(t, m, r, want, ok)
	}
	for stripe := -1; stripe <= len(m.Shards); stripe++ {
		for _, cut := range []int{0, 2, 3, 4} {
			want, dropped := expectDrop(m, stripe, cut)
			holdDrop(t, m, stripe, cut, want, dropped)
		}
	}
}

// TestAllSmallMaps has all calls of all maps of up to four shards with few entries.
func TestAllSmallMaps(t *testing.T) {
	entries, asked := variants(), moves()
	maps := 0
	for _, size := range [][2]int{{1, 2}, {2, 2}, {3, 1}, {4, 1}} { // how many shards there are, and how many entries each one has at most
		for _, shards := range lists(size[0], lists(size[1], entries)) {
			if len(shards) < size[0] {
				continue
			}
			m := api.Map{Shards: shards}
			if !expectValid(m) { // of these there are too many to ask each of them everything
				holdValid(t, m, false)
				holdAll(t, m, nil)
				holdNothing(t, m, entries[0])
				holdDrop(t, m, 0, 9, m, nil)
				continue
			}
			maps++
			holdCalls(t, m, entries, asked)
		}
	}
	if maps < 100 {
		t.Errorf("only %d valid maps", maps)
	}
	for _, shards := range lists(2, lists(1, entries)) {
		holdCalls(t, api.Map{Shards: shards}, entries, asked)
	}
}

// TestAllRows installs all rows of up to five of a few entries into maps with each number of shards: each block has the
// entry with its greatest version in all of them, whatever the order was.
func TestAllRows(t *testing.T) {
	among := []api.Entry{entry(data, 5, 1), entry(trim, 5, 7), entry(data, 5, 4), entry(data, 0, 1<<40), entry(data, 0, 3), entry(trim, 9, 2)}
	for _, row := range lists(5, among) {
		greatest := map[int]api.Entry{}
		for _, e := range row {
			if e.Version > greatest[e.Block].Version {
				greatest[e.Block] = e
			}
		}
		want := listed(greatest)
		for shards := 1; shards <= api.MaxShards; shards++ {
			m := made(t, shards)
			for _, e := range row {
				m, _, _ = l2p.Install(m, e)
			}
			if !slices.Equal(l2p.All(m), want) || !same(m, spread(shards, want...)) {
				t.Fatalf("%v\nlead to %v, want %v", row, m, want)
			}
		}
	}
}
