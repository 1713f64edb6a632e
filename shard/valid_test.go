package shard_test

import (
	"math"
	"slices"
	"testing"

	"zoneappend/api"
)

// field is a number of an entry, with values that it may have, and values that it may not have.
type field struct {
	name          string
	set           func(e *api.Entry, n int)
	values, wrong []int
}

// fields are the numbers of an entry.
func fields() []field {
	negative := append([]int{-1}, below...)
	free := slices.Concat([]int{0, 1, 2, 255, 256, 1 << 40}, above)
	return []field{
		{"Kind", func(e *api.Entry, n int) { e.Kind = n }, []int{1, 2}, slices.Concat([]int{0, 3, 4, 5, 6, 7, 257, 258, 1<<32 + 1}, above, negative)},
		{"Version", func(e *api.Entry, n int) { e.Version = n }, []int{1, 2, 255, 256, 1 << 32, 1<<40 - 1, 1 << 40}, slices.Concat([]int{0}, above, negative)},
		{"Move", func(e *api.Entry, n int) { e.Move = n }, []int{0, 1, 128, 254, 255}, slices.Concat([]int{256, 257, 1 << 32}, above, negative)},
		{"Block", func(e *api.Entry, n int) { e.Block = n }, free, negative},
		{"Zone", func(e *api.Entry, n int) { e.Place.Zone = n }, free, negative},
		{"Offset", func(e *api.Entry, n int) { e.Place.Offset = n }, free, negative},
	}
}

// shards are shards of different lengths.
func shards() [][]api.Entry {
	return [][]api.Entry{
		nil,
		{},
		entries(entry(data, 0, 1)),
		entries(entry(trim, 5, 1)),
		entries(entry(data, 0, 7), entry(data, 1, 7)),
		entries(entry(trim, 3, 9), entry(data, 8, 2)),
		entries(entry(data, 1, 5), entry(trim, 4, 9), entry(data, 6, 2)),
		entries(entry(trim, 1, 1), entry(trim, 2, 1), entry(trim, 3, 1), entry(trim, 4, 1)),
		long(5),
		long(16),
		long(128),
		long(1000),
	}
}

func TestShards(t *testing.T) {
	for _, l := range shards() {
		holdValid(t, l, true)
	}
	holdValid(t, entries(
		api.Entry{Kind: data, Version: 1},
		api.Entry{Block: 1, Kind: trim, Version: 1 << 40, Move: 255, Place: place(math.MaxInt, math.MaxInt)},
		api.Entry{Block: math.MaxInt, Kind: data, Version: 1, Move: 1, Place: place(0, math.MaxInt)},
	), true)
}

// TestNumbers has each number of an entry at and behind its limits, in the first, a middle and the last entry.
func TestNumbers(t *testing.T) {
	for _, f := range fields() {
		for _, n := range f.values {
			e := entry(data, 3, 8)
			f.set(&e, n)
			holdValid(t, entries(e), true)
		}
		for _, l := range shards() {
			if len(l) == 0 {
				continue
			}
			for _, i := range ends(len(l)) {
				for _, n := range f.values {
					e := l[i]
					f.set(&e, n)
					holdValid(t, changed(l, i, e), f.name != "Block" || expectValid(changed(l, i, e)))
				}
				for _, n := range f.wrong {
					e := l[i]
					f.set(&e, n)
					refuse(t, changed(l, i, e))
				}
			}
		}
	}
}

// TestSharedNumbers has entries with the same versions and at the same place: only blocks must differ.
func TestSharedNumbers(t *testing.T) {
	for _, kind := range []int{data, trim} {
		e := api.Entry{Kind: kind, Version: 4, Move: 3, Place: place(2, 2)}
		f, g := e, e
		f.Block, g.Block = 1, 2
		holdValid(t, entries(e, f, g), true)
	}
}

// TestOrder has blocks that are equal, or descend, at the first, a middle and the last place.
func TestOrder(t *testing.T) {
	for _, l := range shards() {
		if len(l) < 2 {
			continue
		}
		for _, i := range ends(len(l) - 1) {
			equal := l[i+1]
			equal.Block = l[i].Block
			refuse(t, changed(l, i+1, equal))
			refuse(t, changed(l, i, l[i+1]))
			refuse(t, slices.Insert(slices.Clone(l), i, l[i]))
			refuse(t, changed(changed(l, i, l[i+1]), i+1, l[i])) // two that have changed places

			late := l[i]
			late.Block = l[i+1].Block + 1
			refuse(t, changed(l, i, late))
			late.Block = math.MaxInt
			refuse(t, changed(l, i, late))
			if l[i].Block > 0 {
				early := l[i+1]
				early.Block = l[i].Block - 1
				refuse(t, changed(l, i+1, early))
				early.Block = 0
				refuse(t, changed(l, i+1, early))
			}
		}
		back := slices.Clone(l)
		slices.Reverse(back)
		refuse(t, back)
		refuse(t, slices.Concat(l, l))
	}
	refuse(t, entries(entry(data, 0, 1), entry(data, 0, 1)))
	refuse(t, entries(entry(data, math.MaxInt, 1), entry(data, math.MaxInt, 2)))
	refuse(t, entries(entry(data, math.MaxInt, 1), entry(data, 0, 2)))
	refuse(t, entries(entry(data, 7, 1), entry(data, 9, 1), entry(data, 8, 1)))
	refuse(t, entries(entry(data, 7, 1), entry(data, 9, 1), entry(data, 7, 1)))
	refuse(t, entries(entry(data, 1, 1), entry(data, 0, 2), entry(data, 3, 3)))
	refuse(t, entries(entry(data, 1, 1), entry(trim, 1, 2), entry(data, 3, 3)))
}

// TestTwoReasons has lists that are no shard for two reasons, in one entry and in two.
func TestTwoReasons(t *testing.T) {
	l := entries(entry(data, 1, 5), entry(trim, 4, 9), entry(data, 6, 2))
	for _, f := range fields() {
		for _, g := range fields() {
			for i := range l {
				for j := range l {
					m := slices.Clone(l)
					f.set(&m[i], f.wrong[0])
					g.set(&m[j], g.wrong[1])
					refuse(t, m)
				}
			}
		}
	}
	refuse(t, make([]api.Entry, 1))
	refuse(t, make([]api.Entry, 2))
	refuse(t, make([]api.Entry, 129))
}
