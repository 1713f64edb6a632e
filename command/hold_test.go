package command_test

import (
	"math"
	"slices"
	"strings"
	"testing"

	"zoneappend/api"
	"zoneappend/command"
)

// kinds are the kinds of commands, and named are those that name a block.
var (
	kinds = []int{api.Read, api.Write, api.Trim, api.Flush}
	named = []int{api.Read, api.Write, api.Trim}
)

// strange are numbers that no kind has: one below Read, one above Flush, and others. Some of them are a kind in their lowest bits.
var strange = []int{
	0, 5, -1, -2, -3, -4, 6, 7, 8, 1<<8 + 1, 1<<8 + 4, 1 - 1<<8, 1<<16 + 2, 1 << 32, 1<<32 + 1, 1<<32 + 3, 2 - 1<<32, 4 - 1<<32,
	1 << 62, 1<<62 + 1, math.MinInt, math.MinInt + 1, math.MinInt + 4, math.MaxInt - 1, math.MaxInt,
}

// far are numbers far from 0. Some of them are small in their lowest bits.
var far = []int{
	127, 128, 129, 255, 256, 257, 1 << 16, 1<<31 - 1, 1 << 31, 1<<32 - 1, 1 << 32, 1<<32 + 1, 1 << 40, 1 << 62, 1<<62 + 1, math.MaxInt - 1, math.MaxInt,
	-127, -128, -129, -255, -256, -1 << 16, -1 << 31, -1 << 32, 1 - 1<<32, -1 << 40, -1 << 62, 1 - 1<<62, math.MinInt + 1, math.MinInt,
}

// lengths are numbers of bytes: those of a block, others about it, and some that are like it in their lowest bits.
var lengths = []int{0, 1, 2, 7, 8, 14, 15, 16, 17, 18, 20, 31, 32, 40, 255, 256, 257, 256 + 15, 256 + 16, 1 << 16, 1<<16 + 16}

// configs are configurations with a number of blocks: some that are possible for a right number of blocks, and some that never are.
func configs(blocks int) []api.Config {
	l := []api.Config{
		{Blocks: blocks},
		{Zones: 12, Size: 8, Blocks: blocks, Queues: 1, Depth: 1, Shards: 1},
		{Zones: 32, Size: 64, Blocks: blocks, Queues: 4, Depth: 8, Shards: 8},
		{Zones: 1, Size: 3, Blocks: blocks, Queues: 4, Depth: 8, Shards: 3}, // without a data zone
	}
	for _, n := range []int{-1, 1, 9, 129, blocks, math.MinInt, math.MaxInt} {
		l = append(l, api.Config{Zones: n, Size: n, Blocks: blocks, Queues: n, Depth: n, Shards: n})
	}
	return l
}

// right is data that a command of a kind has.
func right(kind int) string {
	if kind == 2 {
		return "sixteen bytes .."
	}
	return ""
}

// text is data with a number of bytes.
func text(n int) string { return strings.Repeat("d", n) }

// outside are numbers that are none of the blocks from 0 to blocks - 1.
func outside(blocks int) []int {
	l := slices.Concat([]int{-1, -2, -blocks, blocks, math.MinInt, math.MaxInt}, far)
	if blocks < math.MaxInt {
		l = append(l, blocks+1)
	}
	return slices.DeleteFunc(l, func(n int) bool { return n >= 0 && n < blocks })
}

// holdCheck expects what Check returns, whatever a configuration has beside its number of blocks.
func holdCheck(t *testing.T, blocks int, x api.Command, want api.Errno) {
	t.Helper()
	for _, c := range configs(blocks) {
		if e := command.Check(c, x); e != want {
			t.Fatalf("Check of %+v with %+v: %d, want %d", x, c, e, want)
		}
	}
}

// holdKind expects what Kind returns, whatever a command has beside its kind.
func holdKind(t *testing.T, kind int, want string) {
	t.Helper()
	for _, block := range []int{0, 1, 5, -1, math.MinInt, math.MaxInt} {
		for _, data := range []string{"", "read", "flush", text(16)} {
			x := api.Command{Kind: kind, Block: block, Data: data}
			if word := command.Kind(x); word != want {
				t.Fatalf("Kind of %+v: %q, want %q", x, word, want)
			}
		}
	}
}
