package model_test

import (
	"fmt"
	"math"
	"slices"
	"strings"
	"testing"

	"zoneappend/api"
	"zoneappend/model"
)

// zero is a block that was not written.
const zero = "\x00\x00\x00\x00\x00\x00\x00\x00\x00\x00\x00\x00\x00\x00\x00\x00"

// kinds are the kinds of commands, and named are those that name a block.
var (
	kinds = []int{api.Read, api.Write, api.Trim, api.Flush}
	named = []int{api.Read, api.Write, api.Trim}
)

// strange are numbers that no kind has. Some of them are a kind in their lowest bits.
var strange = []int{
	0, 5, -1, -2, -3, -4, 6, 7, 1<<8 + 1, 1<<8 + 2, 2 - 1<<8, 1<<16 + 3, 1 << 32, 1<<32 + 1, 1<<32 + 2, 3 - 1<<32, 1 << 62, 1<<62 + 2,
	math.MinInt, math.MinInt + 1, math.MinInt + 2, math.MinInt + 3, math.MaxInt - 1, math.MaxInt,
}

// far are numbers far from those of all blocks. Some are small in their lowest bits.
var far = []int{
	256, 257, 1 << 16, 1<<31 - 1, 1 << 31, 1<<32 - 1, 1 << 32, 1<<32 + 1, 1 << 62, math.MaxInt - 1, math.MaxInt,
	-255, -256, -1 << 16, -1 << 31, -1 << 32, 1 - 1<<32, -1 << 62, math.MinInt + 1, math.MinInt,
}

// text is a block of 16 bytes, another one for each number.
func text(n int) string { return fmt.Sprintf("<%14d>", n) }

// texts are n blocks that all differ.
func texts(n int) []string {
	var l []string
	for i := range n {
		l = append(l, text(i))
	}
	return l
}

// bytes is data with a number of bytes.
func bytes(n int) string { return strings.Repeat("d", n) }

// read, write, trim and flush are commands.
func read(block int) api.Command { return api.Command{Kind: api.Read, Block: block} }
func write(block int, data string) api.Command {
	return api.Command{Kind: api.Write, Block: block, Data: data}
}
func trim(block int) api.Command { return api.Command{Kind: api.Trim, Block: block} }
func flush() api.Command         { return api.Command{Kind: api.Flush} }

// of is a command of a kind that names a block, with data that is right for it.
func of(kind, block int) api.Command {
	if kind == api.Write {
		return write(block, "sixteen bytes ..")
	}
	return api.Command{Kind: kind, Block: block}
}

// is is the result of a Read.
func is(data string) api.Result { return api.Result{Data: data} }

// with are blocks of which one is another one.
func with(blocks []string, i int, data string) []string {
	return slices.Concat(blocks[:i], []string{data}, blocks[i+1:])
}

// outside are numbers that are none of n blocks.
func outside(n int) []int { return slices.Concat([]int{-1, -2, -n, n, n + 1, 2*n + 1}, far) }

// within gives use a list in some places in memory: with room behind its last element, where something of others lies, and without. It
// expects that all that is in the list, before it and behind it stays as it was.
func within[E comparable](t *testing.T, l []E, strange E, use func(l []E)) {
	t.Helper()
	n := len(l)
	whole := slices.Concat([]E{strange}, l, []E{strange, strange, strange})
	before := slices.Clone(whole)
	for _, given := range [][]E{whole[1 : 1+n], whole[1 : 1+n : 2+n], whole[1 : 1+n : 1+n]} {
		use(given)
		if !slices.Equal(whole, before) {
			t.Fatalf("%v\nbecame %v", before, whole)
		}
	}
	if n == 0 {
		use(nil)
		use([]E{})
	}
}

// holdApply expects what Apply returns, and that the blocks that were given stay as they are.
func holdApply(t *testing.T, blocks []string, x api.Command, want []string, result api.Result) {
	t.Helper()
	within(t, blocks, "of others", func(blocks []string) {
		t.Helper()
		if got, r := model.Apply(blocks, x); !slices.Equal(got, want) || r != result {
			t.Fatalf("Apply of %+v to %q\n= %q, %+v\nwant %q, %+v", x, blocks, got, r, want, result)
		}
	})
}

// holdRefused expects that a command is refused: the blocks are as they were, and the result has no data.
func holdRefused(t *testing.T, blocks []string, x api.Command, e api.Errno) {
	t.Helper()
	holdApply(t, blocks, x, blocks, api.Result{Err: e})
}

// holdRun expects what Run returns, and that the blocks and commands that were given stay as they are.
func holdRun(t *testing.T, blocks []string, l []api.Command, want []string, results []api.Result) {
	t.Helper()
	within(t, blocks, "of others", func(blocks []string) {
		t.Helper()
		within(t, l, trim(0), func(l []api.Command) {
			t.Helper()
			if got, r := model.Run(blocks, l); !slices.Equal(got, want) || !slices.Equal(r, results) {
				t.Fatalf("Run of %+v with %q\n= %q, %+v\nwant %q, %+v", l, blocks, got, r, want, results)
			}
		})
	})
}
