package shard_test

import (
	"math"
	"slices"
	"testing"

	"zoneappend/api"
)

// three is a shard with three entries, of which the middle one is a tombstone.
func three() []api.Entry {
	return entries(entry(data, 1, 5), entry(trim, 4, 9), entry(data, 6, 2))
}

// TestExample has the chapter's example, and what README.md does with the shard that it leads to.
func TestExample(t *testing.T) {
	newer := api.Entry{Block: 5, Kind: trim, Version: 3, Place: place(2, 1)}
	older := api.Entry{Block: 5, Kind: data, Version: 2, Place: place(2, 0)}
	moved := api.Entry{Block: 5, Kind: trim, Version: 3, Move: 1, Place: place(6, 0)}
	holdInstall(t, nil, newer, entries(newer), none, true)
	holdInstall(t, entries(newer), older, entries(newer), newer, false)
	holdInstall(t, entries(older), newer, entries(newer), older, true)
	holdFind(t, entries(newer), 5, newer, true)
	holdRelocate(t, entries(newer), move{5, 3, newer.Place, moved.Place, 1}, entries(moved), true)
	holdDrop(t, entries(moved), 3, entries(moved), nil)
	holdDrop(t, entries(moved), 4, nil, entries(moved))
}

func TestFind(t *testing.T) {
	for _, e := range three() {
		holdFind(t, three(), e.Block, e, true)
		holdFind(t, entries(e), e.Block, e, true)
		holdFind(t, nil, e.Block, none, false)
		holdFind(t, []api.Entry{}, e.Block, none, false)
	}
	for _, block := range slices.Concat([]int{0, 2, 3, 5, 7, 8, -1, -4, 257, 260, 1<<32 + 1, 1<<32 + 4, 1<<62 + 6}, above, below) {
		holdFind(t, three(), block, none, false)
		holdFind(t, entries(entry(data, 4, 1)), block, none, false)
		holdFind(t, nil, block, none, false)
	}
}

// TestFindEach looks for each block of shards of different lengths, and for those between them.
func TestFindEach(t *testing.T) {
	for n := range 40 {
		l := long(n)
		for _, e := range l {
			holdFind(t, l, e.Block, e, true)
			holdFind(t, l, e.Block-1, none, false)
			holdFind(t, l, e.Block+1, none, false)
		}
	}
	l := long(1000)
	for _, i := range ends(1000) {
		holdFind(t, l, l[i].Block, l[i], true)
		holdFind(t, l, l[i].Block+1, none, false)
	}
}

// TestGreatestBlocks has blocks between which no difference fits into an int.
func TestGreatestBlocks(t *testing.T) {
	first, last := entry(data, 0, 4), entry(trim, math.MaxInt, 6)
	l := entries(first, last)
	holdFind(t, l, 0, first, true)
	holdFind(t, l, math.MaxInt, last, true)
	for _, block := range []int{1, math.MaxInt - 1, -1, math.MinInt, math.MinInt + 1} {
		holdFind(t, l, block, none, false)
	}
	middle := entry(data, 1<<62, 1)
	holdInstall(t, l, middle, entries(first, middle, last), none, true)
	holdInstall(t, entries(first), last, l, none, true)
	holdInstall(t, entries(last), first, l, none, true)
	near := entry(data, math.MaxInt-1, 1)
	holdInstall(t, l, near, entries(first, near, last), none, true)
}

// TestInstallOfNewBlocks has blocks that are not there yet, at each place.
func TestInstallOfNewBlocks(t *testing.T) {
	for _, kind := range []int{data, trim} {
		for _, version := range []int{1, 2, 5, 9, 10, 1<<40 - 1, 1 << 40} {
			for i, block := range []int{0, 2, 5, 7} {
				e := api.Entry{Block: block, Kind: kind, Version: version, Move: 7 * i, Place: place(i, 3)}
				holdInstall(t, three(), e, slices.Insert(three(), i, e), none, true)
				holdInstall(t, nil, e, entries(e), none, true)
				holdInstall(t, []api.Entry{}, e, entries(e), none, true)
				holdInstall(t, three()[:1], e, slices.Insert(three()[:1:1], min(i, 1), e), none, true)
			}
		}
	}
	for n := range 20 {
		l := long(n)
		for i := range n + 1 {
			e := entry(data, 2*i+1, 3)
			holdInstall(t, l, e, slices.Insert(slices.Clone(l), i, e), none, true)
		}
	}
}

// TestInstallOverOthers has blocks that are there, with versions that are less, equal and greater.
func TestInstallOverOthers(t *testing.T) {
	l := entries(entry(data, 1, 50), entry(trim, 4, 90), entry(data, 6, 20), entry(trim, 8, 1), entry(data, 9, 1<<40))
	for i, old := range l {
		for _, kind := range []int{data, trim} {
			for _, step := range []int{-1 << 40, -50, -2, -1, 0, 1, 2, 50, 1 << 32} {
				e := api.Entry{Block: old.Block, Kind: kind, Version: old.Version + step, Move: 200, Place: place(31, 63)}
				switch {
				case e.Version < 1 || e.Version > 1<<40:
					holdInstall(t, l, e, l, none, false)
				case step > 0:
					holdInstall(t, l, e, changed(l, i, e), old, true)
				default:
					holdInstall(t, l, e, l, old, false)
				}
			}
		}
		holdInstall(t, l, old, l, old, false)
	}
	holdInstall(t, entries(entry(data, 0, 2)), entry(data, 0, 3), entries(entry(data, 0, 3)), entry(data, 0, 2), true)
	holdInstall(t, entries(entry(data, 0, 3)), entry(data, 0, 2), entries(entry(data, 0, 3)), entry(data, 0, 3), false)
}

// TestInstallOnlyNeedsTheVersion has newer entries that were moved less often, are of another kind, or are where the older one is.
func TestInstallOnlyNeedsTheVersion(t *testing.T) {
	old := api.Entry{Block: 4, Kind: trim, Version: 9, Move: 255, Place: place(3, 3)}
	for _, kind := range []int{data, trim} {
		for _, moves := range []int{0, 254, 255} {
			for _, at := range []api.Place{place(3, 3), place(0, 0), place(3, 2), place(4, 3), place(math.MaxInt, math.MaxInt)} {
				e := api.Entry{Block: 4, Kind: kind, Version: 10, Move: moves, Place: at}
				holdInstall(t, entries(old), e, entries(e), old, true)
				e.Version = 8
				holdInstall(t, entries(old), e, entries(old), old, false)
				e.Version = 9
				holdInstall(t, entries(old), e, entries(old), old, false)
			}
		}
	}
}

// TestInstallOfWrongEntries has entries that no shard has: newer ones of blocks that are there, and ones of blocks that are not.
func TestInstallOfWrongEntries(t *testing.T) {
	holdInstall(t, nil, none, nil, none, false)
	for _, f := range fields() {
		for _, n := range f.wrong {
			for _, l := range shards() {
				for _, block := range []int{0, 1, 2, 4, 5, 6, 7, 9999} {
					e := api.Entry{Block: block, Kind: data, Version: 1 << 40}
					f.set(&e, n)
					if len(l) > 20 && block != 2 {
						continue
					}
					holdInstall(t, l, e, l, none, false)
				}
			}
		}
	}
}

// TestInstallOfLimits has each number of an entry at its limits.
func TestInstallOfLimits(t *testing.T) {
	for _, f := range fields() {
		for _, n := range f.values {
			e := entry(data, 12, 30)
			f.set(&e, n)
			holdInstall(t, nil, e, entries(e), none, true)
			at := entry(data, 1, 2)
			if f.name != "Block" {
				holdInstall(t, entries(at), e, entries(at, e), none, true)
			}
		}
	}
}

func TestRelocate(t *testing.T) {
	for _, moves := range []int{0, 1, 3, 128, 254, 255} {
		for i, e := range three() {
			for _, to := range []api.Place{place(7, 0), place(0, 7), place(0, 0), place(31, 63), e.Place, place(math.MaxInt, 0), place(0, math.MaxInt)} {
				m := move{e.Block, e.Version, e.Place, to, moves}
				want := api.Entry{Block: e.Block, Kind: e.Kind, Version: e.Version, Move: moves, Place: to}
				holdRelocate(t, three(), m, changed(three(), i, want), true)
				holdRelocate(t, entries(e), m, entries(want), true)
			}
		}
	}
}

// TestRelocateEach moves each entry of shards of different lengths, to places at which others are too.
func TestRelocateEach(t *testing.T) {
	for n := range 30 {
		l := long(n)
		for i, e := range l {
			to := l[(i+1)%n].Place
			want := e
			want.Place, want.Move = to, 17
			holdRelocate(t, l, move{e.Block, e.Version, e.Place, to, 17}, changed(l, i, want), true)
		}
	}
}

// TestRelocateOfOthers has one thing of a move different from what the entry has.
func TestRelocateOfOthers(t *testing.T) {
	l := three()
	for _, e := range l {
		for _, d := range slices.Concat([]int{-1, 1, 7, 1 << 32}, above, below) {
			for _, change := range []func(m *move){
				func(m *move) { m.version += d },
				func(m *move) { m.from.Zone += d },
				func(m *move) { m.from.Offset += d },
				func(m *move) { m.from = place(m.from.Zone+d, m.from.Offset-d) },
			} {
				m := moving(e)
				change(&m)
				holdRelocate(t, l, m, l, false)
				holdRelocate(t, entries(e), m, entries(e), false)
			}
		}
		for _, n := range slices.Concat([]int{0, -1}, above, below) {
			for _, m := range []move{
				{e.Block, n, e.Place, place(40, 50), 9},
				{e.Block, e.Version, place(n, e.Place.Offset), place(40, 50), 9},
				{e.Block, e.Version, place(e.Place.Zone, n), place(40, 50), 9},
				{n, n, place(n, n), place(n, n), n},
			} {
				holdRelocate(t, l, m, l, false)
			}
		}
		m := moving(e)
		m.from = place(m.from.Offset, m.from.Zone)
		holdRelocate(t, l, m, l, false)
		for _, other := range l {
			if other == e {
				continue
			}
			m := moving(e)
			m.block = other.Block
			holdRelocate(t, l, m, l, false)
		}
		holdRelocate(t, nil, moving(e), nil, false)
	}
	for _, block := range slices.Concat([]int{0, 2, 3, 5, 7, -1, -4}, above, below) {
		for _, e := range l {
			m := moving(e)
			m.block = block
			holdRelocate(t, l, m, l, false)
		}
		holdRelocate(t, l, move{block: block}, l, false)
		holdRelocate(t, nil, move{block: block}, nil, false)
	}
}

// TestRelocateToNowhere has places and Moves that no entry has.
func TestRelocateToNowhere(t *testing.T) {
	l := three()
	for _, e := range l {
		for _, n := range append([]int{-1}, below...) {
			for _, to := range []api.Place{place(n, 0), place(0, n), place(n, n), place(n, 5), place(5, n), place(math.MaxInt, n)} {
				m := moving(e)
				m.to = to
				holdRelocate(t, l, m, l, false)
			}
			m := moving(e)
			m.move = n
			holdRelocate(t, l, m, l, false)
		}
		for _, n := range append([]int{256, 257, 511, 1 << 32}, above...) {
			m := moving(e)
			m.move = n
			holdRelocate(t, l, m, l, false)
			m.to = e.Place
			holdRelocate(t, l, m, l, false)
		}
	}
}

// TestRelocateAgain has a move of an entry that was moved: it is no longer where it was.
func TestRelocateAgain(t *testing.T) {
	l := three()
	m := moving(l[1])
	moved, ok := m.relocate(l)
	if !ok {
		t.Fatal("not moved")
	}
	holdRelocate(t, moved, m, moved, false)
	back := move{m.block, m.version, m.to, m.from, 0}
	holdRelocate(t, moved, back, l, true)
	holdRelocate(t, l, back, l, false)
	holdRelocate(t, moved, move{m.block, m.version, m.to, m.to, 255}, changed(l, 1, api.Entry{Block: 4, Kind: trim, Version: 9, Move: 255, Place: m.to}), true)
}

func TestDrop(t *testing.T) {
	a, b, c, d, e := entry(trim, 1, 5), entry(data, 2, 3), entry(trim, 4, 9), entry(data, 6, 8), entry(trim, 7, 7)
	l := entries(a, b, c, d, e)
	for _, x := range []struct {
		cuts          []int
		kept, dropped []api.Entry
	}{
		{append([]int{-1, 0, 1, 2, 3, 4, 5}, below...), l, nil},
		{[]int{6, 7}, entries(b, c, d, e), entries(a)},
		{[]int{8, 9}, entries(b, c, d), entries(a, e)},
		{append([]int{10, 11, 255, 256, 1 << 32, 1 << 40}, above...), entries(b, d), entries(a, c, e)},
	} {
		for _, cut := range x.cuts {
			holdDrop(t, l, cut, x.kept, x.dropped)
		}
	}
}

// TestDropOfLimits has tombstones with the least and the greatest version.
func TestDropOfLimits(t *testing.T) {
	first, last := entry(trim, 0, 1), entry(trim, math.MaxInt, 1<<40)
	l := entries(first, last)
	for _, cut := range append([]int{-1, 0, 1}, below...) {
		holdDrop(t, l, cut, l, nil)
	}
	holdDrop(t, l, 2, entries(last), entries(first))
	holdDrop(t, l, 1<<40-1, entries(last), entries(first))
	holdDrop(t, l, 1<<40, entries(last), entries(first))
	for _, cut := range above {
		holdDrop(t, l, cut, nil, l)
	}
}

// TestDropOfOneKind has lists with no tombstones, and with nothing but tombstones.
func TestDropOfOneKind(t *testing.T) {
	for _, n := range []int{0, 1, 2, 3, 7, 128, 500} {
		alive, dead := long(n), long(n)
		for i := range n {
			alive[i].Kind, dead[i].Kind = data, trim
			alive[i].Version, dead[i].Version = i+1, i+1
		}
		for _, cut := range slices.Concat([]int{-1, 0, 1, 2, 3, 128, n, n + 1, n + 2}, above, below) {
			holdDrop(t, alive, cut, alive, nil)
			old := min(max(cut, 1)-1, n) // tombstones with the versions from 1 to cut - 1
			holdDrop(t, dead, cut, dead[old:], dead[:old])
		}
	}
	holdDrop(t, nil, math.MaxInt, nil, nil)
	holdDrop(t, []api.Entry{}, 0, nil, nil)
}
