package l2p_test

import (
	"math"
	"slices"
	"testing"

	"zoneappend/api"
)

// field is a number of an entry, with values that it may have in any shard, and values that it may have in none.
type field struct {
	set           func(e *api.Entry, n int)
	values, wrong []int
}

// fields are the numbers of an entry.
func fields() []field {
	negative := append([]int{-1}, below...)
	free := slices.Concat([]int{0, 1, 255, 256, 1 << 40}, above)
	return []field{
		{func(e *api.Entry, n int) { e.Kind = n }, []int{1, 2}, slices.Concat([]int{0, 3, 4, 6, 7, 257, 1<<32 + 1}, above, negative)},
		{func(e *api.Entry, n int) { e.Version = n }, []int{1, 2, 1 << 32, 1<<40 - 1, 1 << 40}, slices.Concat([]int{0}, above, negative)},
		{func(e *api.Entry, n int) { e.Move = n }, []int{0, 1, 254, 255}, slices.Concat([]int{256, 257, 1 << 32}, above, negative)},
		{func(e *api.Entry, n int) { e.Place.Zone = n }, free, negative},
		{func(e *api.Entry, n int) { e.Place.Offset = n }, free, negative},
		{func(e *api.Entry, n int) { e.Block = n }, []int{12, 13, 14, 19, 1000, 1 << 40, math.MaxInt}, negative},
	}
}

// eachPlace calls back with the first, a middle and the last entry of the first, a middle and the last shard of maps.
func eachPlace(call func(m api.Map, i, at int, e api.Entry)) {
	for _, n := range counts() {
		for _, rounds := range []int{1, 2, 3, 5} {
			m := wide(n, rounds)
			for _, i := range ends(n) {
				for _, at := range ends(rounds) {
					call(m, i, at, m.Shards[i][at])
				}
			}
		}
	}
}

func TestValid(t *testing.T) {
	for n := 1; n <= api.MaxShards; n++ {
		for _, m := range valid(n) {
			holdValid(t, m, true)
		}
		holdValid(t, wide(n, 40), true)
	}
	eachPlace(func(m api.Map, i, at int, e api.Entry) {
		for _, f := range fields()[:5] {
			for _, value := range f.values {
				x := e
				f.set(&x, value)
				holdValid(t, replaced(m, i, at, x), true)
			}
		}
	})
}

// TestTooFewOrTooMany has maps with no shards, and with more than there may be, whose entries would be in the right ones.
func TestTooFewOrTooMany(t *testing.T) {
	refuse(t, api.Map{})
	refuse(t, api.Map{Shards: [][]api.Entry{}})
	for _, n := range []int{9, 10, 16, 257} {
		refuse(t, spread(n))
		refuse(t, spread(n, entry(data, 0, 1)))
		refuse(t, spread(n, entry(trim, n-1, 1)))
		refuse(t, wide(n, 2))
	}
	holdValid(t, spread(api.MaxShards, entry(data, 7, 1)), true)
}

// TestWrongNumbers has each number of an entry behind its limits.
func TestWrongNumbers(t *testing.T) {
	eachPlace(func(m api.Map, i, at int, e api.Entry) {
		for _, f := range fields() {
			for k, wrong := range f.wrong {
				x := e
				f.set(&x, wrong)
				if k < 3 {
					refuse(t, replaced(m, i, at, x))
				} else {
					holdValid(t, replaced(m, i, at, x), false)
				}
			}
		}
	})
	for n := 1; n <= api.MaxShards; n++ { // the remainder of this block is 0
		refuse(t, changed(spread(n), 0, entry(data, -n, 1)))
		for i := range n {
			refuse(t, changed(spread(n), i, entry(data, i-n, 1)))
			refuse(t, changed(spread(n), i, none))
		}
	}
}

// TestWrongOrder has blocks of the right shard that are equal, or descend.
func TestWrongOrder(t *testing.T) {
	eachPlace(func(m api.Map, i, at int, e api.Entry) {
		l, n := m.Shards[i], len(m.Shards)
		refuse(t, changed(m, i, slices.Insert(slices.Clone(l), at, e)...))
		newer := e
		newer.Version++
		refuse(t, changed(m, i, slices.Insert(slices.Clone(l), at+1, newer)...))
		if at+1 == len(l) {
			return
		}
		back := slices.Clone(l)
		back[at], back[at+1] = back[at+1], back[at]
		refuse(t, changed(m, i, back...))
		late := e
		late.Block = l[at+1].Block + n
		refuse(t, replaced(m, i, at, late))
		late.Block = l[at+1].Block
		refuse(t, replaced(m, i, at, late))
	})
}

// TestWrongShard has entries that could be in a shard, but in another one.
func TestWrongShard(t *testing.T) {
	eachPlace(func(m api.Map, i, at int, e api.Entry) {
		n := len(m.Shards)
		for d := 1; d < n; d++ {
			x := e
			x.Block += d // there is none between this one and the next or the last one
			refuse(t, replaced(m, i, at, x))
			x.Block = e.Block - d
			refuse(t, replaced(m, i, at, x))
			other := changed(m, i, slices.Delete(slices.Clone(m.Shards[i]), at, at+1)...)
			j := (i + d) % n
			refuse(t, changed(other, j, slices.Insert(slices.Clone(m.Shards[j]), min(at+1, len(m.Shards[j])), e)...))
		}
	})
	for n := 2; n <= api.MaxShards; n++ {
		for d := 1; d < n; d++ {
			for _, rounds := range []int{1, 3} {
				m := wide(n, rounds)
				refuse(t, api.Map{Shards: slices.Concat(m.Shards[d:], m.Shards[:d])})
			}
			refuse(t, changed(spread(n), d, entry(data, 0, 1)))
			refuse(t, changed(spread(n), 0, entry(data, d, 1)))
			refuse(t, changed(spread(n), d, entry(data, math.MaxInt-math.MaxInt%n, 1)))
		}
	}
}

// TestOtherNumberOfShards has the shards of one map as those of another: with a shard more, or one less, they are wrong.
func TestOtherNumberOfShards(t *testing.T) {
	for n := 4; n <= api.MaxShards; n++ {
		m := wide(n, 2)
		refuse(t, api.Map{Shards: append(copied(m).Shards, nil)})
		refuse(t, api.Map{Shards: m.Shards[:n-1]})
		refuse(t, api.Map{Shards: m.Shards[1:]})
		refuse(t, api.Map{Shards: slices.Concat(m.Shards, m.Shards)})
	}
	holdValid(t, api.Map{Shards: wide(2, 2).Shards[:1]}, true) // any block is of the only shard
}
