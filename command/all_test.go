package command_test

import (
	"math"
	"slices"
	"testing"

	"zoneappend/api"
	"zoneappend/command"
)

// word is what Kind returns, read once more from the chapter.
func word(kind int) string {
	switch kind {
	case 1:
		return "read"
	case 2:
		return "write"
	case 3:
		return "trim"
	case 4:
		return "flush"
	}
	return ""
}

// wrong tells which errors of a command apply, in their order, read once more from the chapter. Nothing but the kind counts where
// there are no commands of it.
func wrong(blocks int, x api.Command) [3]bool {
	empty := x.Data == ""
	var wrongBlock, wrongData bool
	switch word(x.Kind) {
	case "":
		return [3]bool{true, false, false}
	case "read", "trim":
		wrongBlock, wrongData = !inside(blocks, x.Block), !empty
	case "write":
		wrongBlock, wrongData = !inside(blocks, x.Block), len([]byte(x.Data)) != 16
	case "flush":
		wrongBlock, wrongData = x.Block != 0, !empty
	}
	return [3]bool{false, wrongBlock, wrongData}
}

// inside tells whether a number is one from 0 to blocks - 1, of which there are none if blocks is not positive.
func inside(blocks, block int) bool {
	return blocks >= 1 && block >= 0 && block <= blocks-1
}

// expectCheck is what Check returns.
func expectCheck(blocks int, x api.Command) api.Errno {
	for i, applies := range wrong(blocks, x) {
		if applies {
			return []api.Errno{api.ErrForm, api.ErrRange, api.ErrSize}[i]
		}
	}
	return api.OK
}

// TestAll has all commands of kinds, blocks and data about the ends of their ranges, with all numbers of blocks about them.
func TestAll(t *testing.T) {
	counts := map[api.Errno]int{}
	for kind := -2; kind <= 7; kind++ {
		for block := -3; block <= 10; block++ {
			for n := range 36 {
				x := api.Command{Kind: kind, Block: block, Data: text(n)}
				for blocks := -3; blocks <= 10; blocks++ {
					want := expectCheck(blocks, x)
					if e := command.Check(api.Config{Blocks: blocks}, x); e != want {
						t.Fatalf("Check of %+v with %d blocks: %d, want %d", x, blocks, e, want)
					}
					counts[want]++
				}
			}
		}
	}
	// Of the 10 kinds 6 are none. With 1 to 10 blocks, 55 pairs of the 14 * 14 have a block inside: each with one right length of 36.
	if counts[api.ErrForm] != 6*14*14*36 || counts[api.OK] != 3*55+14 || counts[api.ErrSize] != 35*(3*55+14) {
		t.Errorf("%v", counts)
	}
}

// TestAllFar has all commands whose block is a small number or one far from it, with as many blocks.
func TestAllFar(t *testing.T) {
	numbers := slices.Concat(far, []int{-6, -5, -2, -1, 0, 1, 2, 3, 4, 5, 6, 7})
	for _, kind := range slices.Concat(kinds, strange) {
		for _, block := range numbers {
			for _, n := range []int{0, 1, 15, 16, 17, 256 + 16} {
				x := api.Command{Kind: kind, Block: block, Data: text(n)}
				for _, blocks := range numbers {
					want := expectCheck(blocks, x)
					if e := command.Check(api.Config{Blocks: blocks}, x); e != want {
						t.Fatalf("Check of %+v with %d blocks: %d, want %d", x, blocks, e, want)
					}
				}
			}
		}
	}
}

// TestAllBlocks has each block of each possible number of blocks, and the ones beside them.
func TestAllBlocks(t *testing.T) {
	for blocks := 1; blocks <= api.MaxBlocks; blocks++ {
		for block := -1; block <= api.MaxBlocks; block++ {
			want := api.ErrRange
			if block >= 0 && block < blocks {
				want = api.OK
			}
			for _, kind := range named {
				x := api.Command{Kind: kind, Block: block, Data: right(kind)}
				if e := command.Check(api.Config{Blocks: blocks}, x); e != want {
					t.Fatalf("Check of %+v with %d blocks: %d, want %d", x, blocks, e, want)
				}
			}
		}
	}
}

// TestAllKinds holds Check and Kind against each other: the kinds that have no word are those that Check refuses.
func TestAllKinds(t *testing.T) {
	numbers := slices.Concat(strange, far)
	for kind := -1000; kind <= 1000; kind++ {
		numbers = append(numbers, kind, math.MinInt+kind+1000, math.MaxInt-kind-1000)
	}
	for _, kind := range numbers {
		x := api.Command{Kind: kind}
		if got := command.Kind(x); got != word(kind) {
			t.Fatalf("Kind of %d: %q, want %q", kind, got, word(kind))
		}
		if e := command.Check(api.Config{Blocks: 1}, x); (e == api.ErrForm) != (word(kind) == "") {
			t.Fatalf("Check of the kind %d: %d", kind, e)
		}
	}
}

// TestResultsDependOnArgumentsAlone has the same calls again behind many others.
func TestResultsDependOnArgumentsAlone(t *testing.T) {
	c := api.Config{Zones: 12, Size: 8, Blocks: 6, Queues: 1, Depth: 1, Shards: 1}
	x := api.Command{Kind: api.Trim, Block: 5}
	for _, kind := range slices.Concat(kinds, strange) {
		for _, blocks := range far {
			other := api.Command{Kind: kind, Block: blocks, Data: text(16)}
			command.Check(api.Config{Blocks: blocks}, other)
			command.Kind(other)
			if e, w, z := command.Check(c, x), command.Kind(x), command.Zero(); e != api.OK || w != "trim" || z != string(make([]byte, 16)) {
				t.Fatalf("behind %+v: %d, %q, %q", other, e, w, z)
			}
		}
	}
}
