package command_test

import (
	"math"
	"slices"
	"strings"
	"testing"

	"zoneappend/api"
	"zoneappend/command"
)

// some are numbers of blocks that a configuration may have, and numbers that are too great for one.
var some = []int{1, 2, 3, 6, 127, 128, 129, 256, 257, 1 << 31, 1 << 32, 1<<32 + 1, 1 << 62, math.MaxInt - 1, math.MaxInt}

// none are numbers of blocks that leave no block.
var none = []int{0, -1, -2, -6, -128, -1 << 31, -1 << 32, 6 - 1<<32, -1 << 62, 6 - 1<<62, math.MinInt + 1, math.MinInt}

// TestExample has the chapter's example.
func TestExample(t *testing.T) {
	holdCheck(t, 6, api.Command{Kind: api.Write, Data: text(15)}, api.ErrSize)
}

// TestReadme has what README.md does with commands.
func TestReadme(t *testing.T) {
	c := api.Config{Zones: 12, Size: 8, Blocks: 6, Queues: 1, Depth: 1, Shards: 1}
	x := api.Command{Kind: api.Write, Block: 5, Data: "0123456789abcdef"}
	var e [4]api.Errno
	e[0] = command.Check(c, x)
	word := command.Kind(x)
	x.Data = x.Data[1:]
	e[1] = command.Check(c, x)
	x.Block = 6
	e[2] = command.Check(c, x)
	e[3] = command.Check(c, api.Command{Kind: api.Flush})
	if e != [4]api.Errno{api.OK, api.ErrSize, api.ErrRange, api.OK} || word != "write" || len(command.Zero()) != 16 {
		t.Errorf("%v, %q, %q", e, word, command.Zero())
	}
}

func TestCheck(t *testing.T) {
	block := "0123456789abcdef"
	for _, c := range []struct {
		blocks int
		x      api.Command
		want   api.Errno
	}{
		{6, api.Command{Kind: 1}, 0},
		{6, api.Command{Kind: 1, Block: 5}, 0},
		{6, api.Command{Kind: 1, Block: 6}, 1},
		{6, api.Command{Kind: 1, Block: -1}, 1},
		{6, api.Command{Kind: 1, Block: 3, Data: block}, 2},
		{6, api.Command{Kind: 2, Data: block}, 0},
		{6, api.Command{Kind: 2, Block: 5, Data: block}, 0},
		{6, api.Command{Kind: 2, Block: 6, Data: block}, 1},
		{6, api.Command{Kind: 2, Block: -1, Data: block}, 1},
		{6, api.Command{Kind: 2, Block: 3}, 2},
		{6, api.Command{Kind: 2, Block: 3, Data: block[1:]}, 2},
		{6, api.Command{Kind: 2, Block: 3, Data: block + "g"}, 2},
		{6, api.Command{Kind: 3}, 0},
		{6, api.Command{Kind: 3, Block: 5}, 0},
		{6, api.Command{Kind: 3, Block: 6}, 1},
		{6, api.Command{Kind: 3, Block: -1}, 1},
		{6, api.Command{Kind: 3, Block: 3, Data: block}, 2},
		{6, api.Command{Kind: 4}, 0},
		{6, api.Command{Kind: 4, Block: 1}, 1},
		{6, api.Command{Kind: 4, Block: -1}, 1},
		{6, api.Command{Kind: 4, Data: block}, 2},
		{6, api.Command{}, 3},
		{6, api.Command{Data: block}, 3},
		{6, api.Command{Kind: 5}, 3},
		{6, api.Command{Kind: -1}, 3},
		{1, api.Command{Kind: 1, Block: 0}, 0},
		{1, api.Command{Kind: 1, Block: 1}, 1},
		{1, api.Command{Kind: 2, Block: 0, Data: block}, 0},
		{1, api.Command{Kind: 2, Block: 1, Data: block}, 1},
		{1, api.Command{Kind: 3, Block: 0}, 0},
		{1, api.Command{Kind: 3, Block: 1}, 1},
		{0, api.Command{Kind: 1}, 1},
		{0, api.Command{Kind: 2, Data: block}, 1},
		{0, api.Command{Kind: 3}, 1},
		{0, api.Command{Kind: 4}, 0},
		{-1, api.Command{Kind: 1}, 1},
		{-1, api.Command{Kind: 3, Block: -1}, 1},
		{-1, api.Command{Kind: 4}, 0},
	} {
		holdCheck(t, c.blocks, c.x, c.want)
	}
}

// TestStrangeKinds has numbers that no kind has, with a block and data that are right for some kind.
func TestStrangeKinds(t *testing.T) {
	for _, kind := range strange {
		for _, blocks := range []int{1, 6, 128, math.MaxInt} {
			for _, n := range []int{0, 16} {
				holdCheck(t, blocks, api.Command{Kind: kind, Data: text(n)}, api.ErrForm)
				holdCheck(t, blocks, api.Command{Kind: kind, Block: blocks - 1, Data: text(n)}, api.ErrForm)
			}
		}
	}
}

// TestBlocksInside has the first, a middle and the last block.
func TestBlocksInside(t *testing.T) {
	for _, blocks := range some {
		for _, kind := range named {
			for _, block := range []int{0, blocks / 2, blocks - 1} {
				holdCheck(t, blocks, api.Command{Kind: kind, Block: block, Data: right(kind)}, api.OK)
			}
		}
	}
}

// TestBlocksOutside has numbers before the first and behind the last block.
func TestBlocksOutside(t *testing.T) {
	for _, blocks := range some {
		for _, kind := range named {
			for _, block := range outside(blocks) {
				holdCheck(t, blocks, api.Command{Kind: kind, Block: block, Data: right(kind)}, api.ErrRange)
			}
		}
	}
}

// TestNoBlocks has configurations without a block, so that no number is one: not 0, and not what comes before Blocks.
func TestNoBlocks(t *testing.T) {
	for _, blocks := range none {
		for _, kind := range named {
			for _, block := range slices.Concat([]int{0, 1, 5, -1, -2, blocks, blocks - 1, blocks + 1}, far) {
				holdCheck(t, blocks, api.Command{Kind: kind, Block: block, Data: right(kind)}, api.ErrRange)
			}
		}
	}
}

// TestBlockOfFlush has flushes, which have the block 0, whatever blocks there are.
func TestBlockOfFlush(t *testing.T) {
	for _, blocks := range slices.Concat(some, none) {
		holdCheck(t, blocks, api.Command{Kind: api.Flush}, api.OK)
		for _, block := range slices.Concat([]int{-1, 1, 2, 5, -2, blocks - 1, blocks, blocks + 1}, far) {
			if block != 0 {
				holdCheck(t, blocks, api.Command{Kind: api.Flush, Block: block}, api.ErrRange)
			}
		}
	}
}

// TestLengths has data of all lengths about that of a block, and of some greater ones.
func TestLengths(t *testing.T) {
	for _, n := range lengths {
		for _, kind := range kinds {
			want := api.ErrSize
			if kind == 2 && n == 16 || kind != 2 && n == 0 {
				want = api.OK
			}
			holdCheck(t, 6, api.Command{Kind: kind, Data: text(n)}, want)
			if kind != 4 {
				holdCheck(t, 6, api.Command{Kind: kind, Block: 5, Data: text(n)}, want)
			}
		}
	}
}

// TestBytesOfData has data that is no text: bytes are counted, and what they are makes no difference.
func TestBytesOfData(t *testing.T) {
	every := make([]byte, 256)
	for i := range every {
		every[i] = byte(i)
	}
	for i := 0; i <= len(every)-16; i++ {
		holdCheck(t, 6, api.Command{Kind: api.Write, Data: string(every[i : i+16])}, api.OK)
	}
	for _, c := range []struct {
		data string
		want api.Errno
	}{
		{strings.Repeat("\x00", 16), api.OK},
		{strings.Repeat("\x00", 15), api.ErrSize},
		{strings.Repeat("\x00", 17), api.ErrSize},
		{strings.Repeat("\xff", 16), api.OK},
		{strings.Repeat(" ", 16), api.OK},
		{strings.Repeat("\u00e9", 8), api.OK},
		{strings.Repeat("\u00e9", 16), api.ErrSize},
		{strings.Repeat("\U0001f4be", 4), api.OK},
		{strings.Repeat("\U0001f4be", 16), api.ErrSize},
		{text(16) + "\x00", api.ErrSize},
		{" " + text(16), api.ErrSize},
		{text(15) + "\n", api.OK},
	} {
		holdCheck(t, 6, api.Command{Kind: api.Write, Block: 2, Data: c.data}, c.want)
		for _, kind := range []int{api.Read, api.Trim, api.Flush} {
			holdCheck(t, 6, api.Command{Kind: kind, Data: c.data}, api.ErrSize)
		}
	}
	for _, kind := range []int{api.Read, api.Trim, api.Flush} {
		for i := range every {
			holdCheck(t, 6, api.Command{Kind: kind, Data: string(every[i : i+1])}, api.ErrSize)
		}
	}
}

// TestOrder has commands to which more than one error applies.
func TestOrder(t *testing.T) {
	for _, blocks := range []int{0, -1, 1, 6, 128, math.MinInt} {
		for _, block := range []int{-1, 128, math.MinInt, math.MaxInt} {
			for _, n := range []int{1, 15, 17} { // wrong for each kind
				for _, kind := range kinds {
					holdCheck(t, blocks, api.Command{Kind: kind, Block: block, Data: text(n)}, api.ErrRange)
				}
				for _, kind := range strange {
					holdCheck(t, blocks, api.Command{Kind: kind, Block: block, Data: text(n)}, api.ErrForm)
				}
			}
			holdCheck(t, blocks, api.Command{Kind: api.Write, Block: block}, api.ErrRange)
			for _, kind := range []int{api.Read, api.Trim, api.Flush} {
				holdCheck(t, blocks, api.Command{Kind: kind, Block: block, Data: text(16)}, api.ErrRange)
			}
		}
	}
	for _, kind := range strange {
		for _, n := range lengths {
			holdCheck(t, 6, api.Command{Kind: kind, Data: text(n)}, api.ErrForm)
			holdCheck(t, 6, api.Command{Kind: kind, Block: 6, Data: text(n)}, api.ErrForm)
			holdCheck(t, 0, api.Command{Kind: kind, Data: text(n)}, api.ErrForm)
		}
	}
}

// TestRestOfConfiguration has pairs of configurations that differ in everything but their blocks.
func TestRestOfConfiguration(t *testing.T) {
	for _, blocks := range []int{-1, 0, 1, 6, 128} {
		for _, n := range []int{math.MinInt, -1, 0, 1, 2, 5, 7, 129, math.MaxInt} {
			a := api.Config{Zones: 12, Size: 8, Blocks: blocks, Queues: 3, Depth: 4, Shards: 6}
			b := api.Config{Zones: n, Size: n, Blocks: blocks, Queues: n, Depth: n, Shards: n}
			for _, kind := range slices.Concat(kinds, strange) {
				for _, block := range slices.Concat([]int{0, 1, 5, 6, -1}, far) {
					for _, bytes := range []int{0, 1, 15, 16, 17} {
						x := api.Command{Kind: kind, Block: block, Data: text(bytes)}
						if e, f := command.Check(a, x), command.Check(b, x); e != f {
							t.Fatalf("Check of %+v: %d with %+v, %d with %+v", x, e, a, f, b)
						}
					}
				}
			}
		}
	}
}

// TestBlocksCount has two configurations that differ in their blocks alone.
func TestBlocksCount(t *testing.T) {
	for _, blocks := range []int{1, 2, 6, 128, math.MaxInt} {
		for _, kind := range named {
			x := api.Command{Kind: kind, Block: blocks - 1, Data: right(kind)}
			holdCheck(t, blocks, x, api.OK)
			holdCheck(t, blocks-1, x, api.ErrRange)
		}
	}
}

func TestZero(t *testing.T) {
	if zero := command.Zero(); zero != "\x00\x00\x00\x00\x00\x00\x00\x00\x00\x00\x00\x00\x00\x00\x00\x00" {
		t.Errorf("Zero: %q", zero)
	}
	if n := len(command.Zero()); n != api.BlockBytes {
		t.Errorf("Zero has %d bytes", n)
	}
	for i := range len(command.Zero()) {
		if command.Zero()[i] != 0 {
			t.Errorf("Zero has the byte %d at %d", command.Zero()[i], i)
		}
	}
	holdCheck(t, 1, api.Command{Kind: api.Write, Data: command.Zero()}, api.OK)
}

func TestKind(t *testing.T) {
	holdKind(t, api.Read, "read")
	holdKind(t, api.Write, "write")
	holdKind(t, api.Trim, "trim")
	holdKind(t, api.Flush, "flush")
	for _, kind := range slices.Concat(strange, far) {
		holdKind(t, kind, "")
	}
}
