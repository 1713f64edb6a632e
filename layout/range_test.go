package layout_test

import (
	"math"
	"testing"

	"zoneappend/api"
)

// field is a number of a configuration, with its least and its greatest value.
type field struct {
	least, greatest int
	set             func(c *api.Config, n int)
}

var fields = []field{
	{3, 64, func(c *api.Config, n int) { c.Size = n }},
	{1, 32, func(c *api.Config, n int) { c.Zones = n }},
	{1, 128, func(c *api.Config, n int) { c.Blocks = n }},
	{1, 4, func(c *api.Config, n int) { c.Queues = n }},
	{1, 8, func(c *api.Config, n int) { c.Depth = n }},
	{1, 8, func(c *api.Config, n int) { c.Shards = n }},
}

// outside are numbers that are in no range. Some of them are in one in their lowest bits, and sums and products of others are.
var outside = []int{
	0, -1, -2, -3, -64, -129, math.MinInt8, math.MinInt16, math.MinInt32, -1 << 32, 8 - 1<<32, -1 << 62, 8 - 1<<62, math.MinInt + 1, math.MinInt + 8, math.MinInt,
	129, 256, 256 + 8, 1 << 16, 1<<16 + 8, math.MaxInt32, math.MaxUint32, 1 << 32, 1<<32 + 8, 1 << 61, 1 << 62, 1<<62 + 8, math.MaxInt - 65, math.MaxInt - 64, math.MaxInt - 2, math.MaxInt - 1, math.MaxInt,
}

// bases are configurations to change a number of: valid ones, and ones that leave too little for data.
var bases = []api.Config{
	{Zones: 12, Size: 8, Blocks: 6, Queues: 1, Depth: 1, Shards: 1},
	{Zones: 32, Size: 64, Blocks: 128, Queues: 4, Depth: 8, Shards: 8},
	{Zones: 8, Size: 3, Blocks: 1, Queues: 4, Depth: 4, Shards: 4},
	{Zones: 7, Size: 8, Blocks: 6, Queues: 1, Depth: 1, Shards: 1},
	{Zones: 1, Size: 3, Blocks: 128, Queues: 4, Depth: 8, Shards: 8},
}

// TestRangeOfOneNumber has one number out of its range, which is told before what else is wrong.
func TestRangeOfOneNumber(t *testing.T) {
	for _, base := range bases {
		for _, f := range fields {
			for _, n := range append([]int{f.least - 1, f.greatest + 1}, outside...) {
				c := base
				f.set(&c, n)
				refuse(t, c, api.ErrRange)
			}
		}
	}
}

// TestRangeOfTwoNumbers has two numbers out of their ranges.
func TestRangeOfTwoNumbers(t *testing.T) {
	for i, f := range fields {
		for _, g := range fields[:i] {
			for _, n := range append([]int{f.least - 1, f.greatest + 1}, outside...) {
				for _, m := range append([]int{g.least - 1, g.greatest + 1}, outside...) {
					c := bases[0]
					f.set(&c, n)
					g.set(&c, m)
					refuse(t, c, api.ErrRange)
				}
			}
		}
	}
}

// TestRangeOfAllNumbers has the same wrong number everywhere, and no number anywhere.
func TestRangeOfAllNumbers(t *testing.T) {
	refuse(t, api.Config{}, api.ErrRange)
	for _, n := range outside {
		refuse(t, api.Config{Zones: n, Size: n, Blocks: n, Queues: n, Depth: n, Shards: n}, api.ErrRange)
	}
}

// TestRangeEnds has all numbers at the ends of their ranges, just outside, and at the ends of an int, in all combinations.
func TestRangeEnds(t *testing.T) {
	counts := map[api.Errno]int{}
	var fill func(c api.Config, inside bool, rest []field)
	fill = func(c api.Config, inside bool, rest []field) {
		if len(rest) == 0 {
			want, err := api.Layout{}, api.ErrRange
			if inside {
				want, err = expect(c)
			}
			hold(t, c, want, err)
			counts[err]++
			return
		}
		f := rest[0]
		for _, n := range []int{f.least, f.greatest} {
			f.set(&c, n)
			fill(c, inside, rest[1:])
		}
		for _, n := range []int{f.least - 1, f.greatest + 1, math.MinInt, math.MaxInt} {
			f.set(&c, n)
			fill(c, false, rest[1:])
		}
	}
	fill(api.Config{}, true, fields)
	// Both sizes, both numbers of blocks and 32 zones are valid, but for 128 blocks in zones of three sectors: 3 of 8 ways, with 8 for the other numbers.
	if counts[api.OK] != 24 || counts[api.ErrConfig] != 40 || counts[api.ErrRange] != 46656-64 {
		t.Errorf("%v", counts)
	}
}

// TestInsideRanges has each number at each value of its range.
func TestInsideRanges(t *testing.T) {
	base := api.Config{Zones: 32, Size: 16, Blocks: 10, Queues: 2, Depth: 3, Shards: 5}
	for _, f := range fields {
		for n := f.least; n <= f.greatest; n++ {
			c := base
			f.set(&c, n)
			want, err := expect(c)
			hold(t, c, want, err)
			if few := c.Zones < 8; few != (err == api.ErrConfig) {
				t.Errorf("%s: %d", text(c), err)
			}
		}
	}
}
