package model_test

import (
	"slices"
	"testing"

	"zoneappend/api"
	"zoneappend/model"
)

// behind is what a Read of a block returns behind some commands.
func behind(t *testing.T, blocks []string, block int, l ...api.Command) string {
	t.Helper()
	_, r := model.Run(blocks, append(slices.Clip(l), read(block)))
	last := r[len(r)-1]
	if len(r) != len(l)+1 || last.Err != api.OK {
		t.Fatalf("%+v behind %+v", r, l)
	}
	one := blocks // once more, with one call for each command
	for _, x := range l {
		one, _ = model.Apply(one, x)
	}
	if _, r := model.Apply(one, read(block)); r != last {
		t.Fatalf("%+v with Run, %+v with Apply, behind %+v", last, r, l)
	}
	return last.Data
}

// TestReadReturnsLast reads blocks of new devices behind some commands.
func TestReadReturnsLast(t *testing.T) {
	for _, n := range []int{1, 2, 3, api.MaxBlocks} {
		for i := range n {
			var others []api.Command
			for o := range n {
				if o != i {
					others = append(others, write(o, text(100+o)), trim(o), write(o, text(o)))
				}
			}
			others = append(others, flush())
			for _, c := range []struct {
				l    []api.Command
				want string
			}{
				{nil, zero},
				{[]api.Command{flush()}, zero},
				{[]api.Command{read(i)}, zero},
				{others, zero},
				{[]api.Command{write(i, text(7))}, text(7)},
				{[]api.Command{write(i, text(7)), flush()}, text(7)},
				{[]api.Command{write(i, text(7)), read(i), read(i)}, text(7)},
				{[]api.Command{write(i, text(7)), write(i, text(8))}, text(8)},
				{[]api.Command{write(i, text(7)), write(i, text(7))}, text(7)},
				{[]api.Command{trim(i)}, zero},
				{[]api.Command{write(i, text(7)), trim(i)}, zero},
				{[]api.Command{write(i, text(7)), write(i, text(8)), trim(i), flush()}, zero},
				{[]api.Command{trim(i), write(i, text(8))}, text(8)},
				{[]api.Command{write(i, text(7)), trim(i), write(i, text(8))}, text(8)},
				{append([]api.Command{write(i, text(7))}, others...), text(7)},
				{append([]api.Command{write(i, text(7)), trim(i)}, others...), zero},
				{append(slices.Clip(others), write(i, text(7))), text(7)},
				{[]api.Command{write(i, text(7)), write(i, "short"), write(n, text(8)), trim(-1), {Kind: 3, Block: i, Data: "d"}}, text(7)},
			} {
				if got := behind(t, model.New(n), i, c.l...); got != c.want {
					t.Fatalf("Read of %d of %d behind %+v: %q, want %q", i, n, c.l, got, c.want)
				}
			}
		}
	}
}

// TestGivenBlocksAreRead reads blocks that were not written since they were given.
func TestGivenBlocksAreRead(t *testing.T) {
	l := texts(5)
	for i := range l {
		o := (i + 1) % 5
		if got := behind(t, l, i, write(o, zero), trim(o), flush()); got != text(i) {
			t.Errorf("Read of %d: %q", i, got)
		}
	}
}

// some are commands of a block: right ones and wrong ones.
func some(block int) []api.Command {
	return []api.Command{
		read(block), write(block, text(50+block)), write(block, zero), trim(block),
		write(block, "short"), {Kind: api.Read, Block: block, Data: "d"}, {Kind: 5, Block: block},
	}
}

// TestDifferentBlocksChangePlaces has all pairs of commands on different blocks, alone and between others: in both orders the blocks and
// each command's result are the same.
func TestDifferentBlocksChangePlaces(t *testing.T) {
	l := texts(4)
	before := []api.Command{write(0, text(20)), trim(2)}
	after := []api.Command{read(0), read(1), read(2), read(3)}
	for a := -1; a <= 4; a++ {
		for b := -1; b <= 4; b++ {
			if a == b {
				continue
			}
			for _, x := range some(a) {
				for _, y := range some(b) {
					first, r := model.Run(l, slices.Concat(before, []api.Command{x, y}, after))
					second, s := model.Run(l, slices.Concat(before, []api.Command{y, x}, after))
					s[2], s[3] = s[3], s[2]
					if !slices.Equal(first, second) || !slices.Equal(r, s) {
						t.Fatalf("%+v, %+v: %q, %+v and %q, %+v", x, y, first, r, second, s)
					}
				}
			}
		}
	}
}

// TestFlushChangesPlaces has a Flush before and behind each command: it makes no difference to anything.
func TestFlushChangesPlaces(t *testing.T) {
	l := texts(3)
	for block := -1; block <= 3; block++ {
		for _, x := range some(block) {
			want, r := model.Run(l, []api.Command{x, read(0)})
			holdRun(t, l, []api.Command{flush(), x, read(0)}, want, slices.Concat([]api.Result{{}}, r))
			holdRun(t, l, []api.Command{x, flush(), read(0)}, want, []api.Result{r[0], {}, r[1]})
		}
	}
}

// TestOneBlockMayNotChangePlaces has pairs of commands on one block of which the order matters.
func TestOneBlockMayNotChangePlaces(t *testing.T) {
	l := texts(2)
	for _, c := range []struct {
		x, y        api.Command
		first, then []string // what the blocks are behind x and y, and behind y and x
	}{
		{write(1, text(7)), write(1, text(8)), with(l, 1, text(8)), with(l, 1, text(7))},
		{write(1, text(7)), trim(1), with(l, 1, zero), with(l, 1, text(7))},
	} {
		holdRun(t, l, []api.Command{c.x, c.y}, c.first, []api.Result{{}, {}})
		holdRun(t, l, []api.Command{c.y, c.x}, c.then, []api.Result{{}, {}})
	}
	holdRun(t, l, []api.Command{read(1), write(1, text(7))}, with(l, 1, text(7)), []api.Result{is(text(1)), {}})
	holdRun(t, l, []api.Command{write(1, text(7)), read(1)}, with(l, 1, text(7)), []api.Result{{}, is(text(7))})
}
