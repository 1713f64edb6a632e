package model_test

import (
	"slices"
	"testing"

	"zoneappend/api"
	"zoneappend/model"
)

// lists are all lists of up to n elements of another one.
func lists[E any](n int, among []E) [][]E {
	all, longest := [][]E{nil}, [][]E{nil}
	for range n {
		var longer [][]E
		for _, l := range longest {
			for _, e := range among {
				longer = append(longer, append(slices.Clip(l), e))
			}
		}
		all, longest = append(all, longer...), longer
	}
	return all
}

// commands are all commands of kinds, blocks and data about the ends of their ranges, for up to n blocks.
func commands(n int) []api.Command {
	var l []api.Command
	for kind := -1; kind <= 6; kind++ {
		for block := -2; block <= n+1; block++ {
			for _, size := range []int{0, 1, 15, 16, 17} {
				l = append(l, api.Command{Kind: kind, Block: block, Data: bytes(size)})
			}
		}
	}
	return l
}

// TestAllSmall has all commands with all lists of up to three blocks.
func TestAllSmall(t *testing.T) {
	answered := 0
	for _, l := range lists(3, []string{zero, text(1), text(2), "short", ""}) {
		for _, x := range commands(3) {
			want, r := expectApply(l, x)
			holdApply(t, l, x, want, r)
			if r.Err == api.OK {
				answered++
			}
		}
	}
	// A Flush of each of the lists, and three commands of each of their blocks.
	if n := 1 + 5 + 25 + 125; answered != n+3*(5+2*25+3*125) {
		t.Errorf("%d were answered with OK", answered)
	}
}

// TestAllRows has all rows of up to four commands on two blocks.
func TestAllRows(t *testing.T) {
	among := []api.Command{
		read(0), read(1), write(0, text(7)), write(1, text(7)), write(0, text(8)), trim(0), trim(1), flush(), read(2), write(1, "short"), {},
	}
	blocks := texts(2)
	for _, l := range lists(4, among) {
		want, results := expectRun(blocks, l)
		got, r := model.Run(blocks, l)
		if !slices.Equal(got, want) || !slices.Equal(r, results) {
			t.Fatalf("Run of %+v: %q, %+v, want %q, %+v", l, got, r, want, results)
		}
		if len(l) <= 2 {
			holdRun(t, blocks, l, want, results)
		}
	}
}

// TestAllDevices has each number of blocks, with each kind of command for all of the blocks and for the ones beside them.
func TestAllDevices(t *testing.T) {
	for n := 1; n <= api.MaxBlocks; n++ {
		blocks := model.New(n)
		for block := -1; block <= n; block++ {
			for _, kind := range slices.Concat(kinds, []int{0, 5}) {
				x := of(kind, block)
				want, r := expectApply(blocks, x)
				if got, s := model.Apply(blocks, x); !slices.Equal(got, want) || s != r {
					t.Fatalf("Apply of %+v to %d blocks: %q, %+v", x, n, got, s)
				}
			}
		}
	}
}

// TestResultsDependOnArgumentsAlone has the same calls again behind many others.
func TestResultsDependOnArgumentsAlone(t *testing.T) {
	blocks := texts(3)
	for _, other := range [][]string{nil, texts(1), texts(3), texts(api.MaxBlocks), {"", "short"}} {
		for _, x := range slices.Concat(commands(2), some(1), some(2)) {
			model.Apply(other, x)
			model.Run(other, []api.Command{x, flush(), x})
			model.New(x.Block)
			if l := model.New(2); !slices.Equal(l, []string{zero, zero}) {
				t.Fatalf("New behind %+v: %q", x, l)
			}
			holdApply(t, blocks, read(2), blocks, is(text(2)))
			holdApply(t, blocks, write(1, text(9)), []string{text(0), text(9), text(2)}, api.Result{})
			holdRun(t, blocks, []api.Command{trim(0), read(0), {}}, []string{zero, text(1), text(2)}, []api.Result{{}, is(zero), {Err: api.ErrForm}})
		}
	}
}
