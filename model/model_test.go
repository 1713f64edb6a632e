package model_test

import (
	"math"
	"slices"
	"strings"
	"testing"

	"zoneappend/api"
	"zoneappend/command"
	"zoneappend/model"
)

// TestExample has the chapter's example.
func TestExample(t *testing.T) {
	b := text(7)
	holdRun(t, model.New(1), []api.Command{write(0, b), trim(0), read(0)}, []string{zero}, []api.Result{{}, {}, is(strings.Repeat("\x00", 16))})
}

// TestReadme has what README.md does with blocks.
func TestReadme(t *testing.T) {
	blocks := model.New(2)
	blocks, r := model.Apply(blocks, api.Command{Kind: api.Write, Block: 1, Data: "0123456789abcdef"})
	if r != (api.Result{}) || !slices.Equal(blocks, []string{zero, "0123456789abcdef"}) {
		t.Errorf("%q, %+v", blocks, r)
	}
	blocks, r = model.Apply(blocks, api.Command{Kind: api.Read, Block: 2})
	if r != (api.Result{Err: api.ErrRange}) || len(blocks) != 2 {
		t.Errorf("%q, %+v", blocks, r)
	}
	blocks, l := model.Run(blocks, []api.Command{{Kind: api.Read, Block: 1}, {Kind: api.Trim, Block: 1}, {Kind: api.Read, Block: 1}})
	if !slices.Equal(l, []api.Result{{Data: "0123456789abcdef"}, {}, {Data: command.Zero()}}) || !slices.Equal(blocks, []string{zero, zero}) {
		t.Errorf("%q, %+v", blocks, l)
	}
}

func TestNew(t *testing.T) {
	for n := 1; n <= api.MaxBlocks; n++ {
		l := model.New(n)
		if len(l) != n {
			t.Fatalf("New of %d: %d blocks", n, len(l))
		}
		for i, b := range l {
			if b != zero || b != command.Zero() || len(b) != api.BlockBytes {
				t.Fatalf("New of %d: the block %d is %q", n, i, b)
			}
		}
	}
	for _, n := range slices.Concat([]int{0, -1, -2, -127, -128, -129, 129, 130, 255}, far) {
		if l := model.New(n); len(l) != 0 {
			t.Errorf("New of %d: %d blocks", n, len(l))
		}
	}
}

// TestNewIsNew writes into what New returned, as nobody should: what it returns next is as ever.
func TestNewIsNew(t *testing.T) {
	a := model.New(3)
	b := model.New(3)
	for i := range a {
		a[i] = text(i)
	}
	if want := []string{zero, zero, zero}; !slices.Equal(b, want) || !slices.Equal(model.New(3), want) {
		t.Errorf("%q, %q", b, model.New(3))
	}
}

// TestApply has each kind of command, with some results written out.
func TestApply(t *testing.T) {
	given := []string{"aaaaaaaaaaaaaaaa", "bbbbbbbbbbbbbbbb"}
	c := "cccccccccccccccc"
	for _, x := range []struct {
		x    api.Command
		want []string
		r    api.Result
	}{
		{api.Command{Kind: 1}, given, api.Result{Data: "aaaaaaaaaaaaaaaa"}},
		{api.Command{Kind: 1, Block: 1}, given, api.Result{Data: "bbbbbbbbbbbbbbbb"}},
		{api.Command{Kind: 1, Block: 2}, given, api.Result{Err: 1}},
		{api.Command{Kind: 1, Block: -1}, given, api.Result{Err: 1}},
		{api.Command{Kind: 1, Data: c}, given, api.Result{Err: 2}},
		{api.Command{Kind: 2, Data: c}, []string{c, "bbbbbbbbbbbbbbbb"}, api.Result{}},
		{api.Command{Kind: 2, Block: 1, Data: c}, []string{"aaaaaaaaaaaaaaaa", c}, api.Result{}},
		{api.Command{Kind: 2, Block: 2, Data: c}, given, api.Result{Err: 1}},
		{api.Command{Kind: 2, Block: -1, Data: c}, given, api.Result{Err: 1}},
		{api.Command{Kind: 2}, given, api.Result{Err: 2}},
		{api.Command{Kind: 2, Data: c[1:]}, given, api.Result{Err: 2}},
		{api.Command{Kind: 2, Data: c + "c"}, given, api.Result{Err: 2}},
		{api.Command{Kind: 3}, []string{zero, "bbbbbbbbbbbbbbbb"}, api.Result{}},
		{api.Command{Kind: 3, Block: 1}, []string{"aaaaaaaaaaaaaaaa", zero}, api.Result{}},
		{api.Command{Kind: 3, Block: 2}, given, api.Result{Err: 1}},
		{api.Command{Kind: 3, Block: -1}, given, api.Result{Err: 1}},
		{api.Command{Kind: 3, Data: c}, given, api.Result{Err: 2}},
		{api.Command{Kind: 4}, given, api.Result{}},
		{api.Command{Kind: 4, Block: 1}, given, api.Result{Err: 1}},
		{api.Command{Kind: 4, Block: -1}, given, api.Result{Err: 1}},
		{api.Command{Kind: 4, Data: c}, given, api.Result{Err: 2}},
		{api.Command{}, given, api.Result{Err: 3}},
		{api.Command{Kind: 5}, given, api.Result{Err: 3}},
		{api.Command{Kind: -1, Block: 1, Data: c}, given, api.Result{Err: 3}},
	} {
		holdApply(t, given, x.x, x.want, x.r)
	}
}

// TestEachBlock has each kind of command for each block of short and long lists.
func TestEachBlock(t *testing.T) {
	for _, n := range []int{1, 2, 3, 127, api.MaxBlocks} {
		l := texts(n)
		for i := range n {
			holdApply(t, l, read(i), l, is(text(i)))
			holdApply(t, l, write(i, text(1000)), with(l, i, text(1000)), api.Result{})
			holdApply(t, l, write(i, text(i)), l, api.Result{}) // what it is already
			holdApply(t, l, write(i, zero), with(l, i, zero), api.Result{})
			holdApply(t, l, trim(i), with(l, i, zero), api.Result{})
			if i > 0 {
				holdRefused(t, l, api.Command{Kind: api.Flush, Block: i}, api.ErrRange)
			}
		}
		holdApply(t, l, flush(), l, api.Result{})
	}
}

// TestOtherBlocks has blocks that there are not: beside the first and the last one, and far from them.
func TestOtherBlocks(t *testing.T) {
	for _, n := range []int{1, 2, 3, 127, api.MaxBlocks} {
		for _, block := range outside(n) {
			for _, kind := range named {
				holdRefused(t, texts(n), of(kind, block), api.ErrRange)
			}
			holdRefused(t, texts(n), api.Command{Kind: api.Flush, Block: block}, api.ErrRange)
		}
	}
}

// TestStrangeKinds has numbers that no kind has, with all blocks and with data that is right for some kind.
func TestStrangeKinds(t *testing.T) {
	for _, kind := range strange {
		for _, n := range []int{0, 1, 2, api.MaxBlocks} {
			for _, bytesOf := range []int{0, 16} {
				for block := -1; block <= n; block++ {
					holdRefused(t, texts(n), api.Command{Kind: kind, Block: block, Data: bytes(bytesOf)}, api.ErrForm)
				}
			}
		}
	}
}

// TestNoBlocks has lists without a block: there is nothing that could be read, written or trimmed, but it can be flushed.
func TestNoBlocks(t *testing.T) {
	for _, block := range slices.Concat([]int{0, 1, 2, 3}, outside(3)) {
		for _, kind := range named {
			holdRefused(t, nil, of(kind, block), api.ErrRange)
		}
	}
	holdApply(t, nil, flush(), nil, api.Result{})
	holdRefused(t, nil, api.Command{Kind: api.Flush, Block: 1}, api.ErrRange)
	holdRefused(t, nil, api.Command{Kind: api.Flush, Data: "d"}, api.ErrSize)
	holdRefused(t, nil, api.Command{}, api.ErrForm)
}

// TestData has data of each length about that of a block, and of some greater ones.
func TestData(t *testing.T) {
	for _, n := range []int{1, 2, api.MaxBlocks} {
		l := texts(n)
		for _, block := range []int{0, n / 2, n - 1} {
			for _, size := range []int{0, 1, 8, 15, 17, 20, 31, 32, 40, 256 + 16, 1<<16 + 16} {
				holdRefused(t, l, write(block, bytes(size)), api.ErrSize)
			}
			holdApply(t, l, write(block, bytes(16)), with(l, block, bytes(16)), api.Result{})
			for _, size := range []int{1, 15, 16, 17, 256, 1 << 16} {
				holdRefused(t, l, api.Command{Kind: api.Read, Block: block, Data: bytes(size)}, api.ErrSize)
				holdRefused(t, l, api.Command{Kind: api.Trim, Block: block, Data: bytes(size)}, api.ErrSize)
				holdRefused(t, l, api.Command{Kind: api.Flush, Data: bytes(size)}, api.ErrSize)
			}
		}
		holdRefused(t, l, api.Command{Kind: api.Read, Data: l[0]}, api.ErrSize) // also what the block is
		holdRefused(t, l, api.Command{Kind: api.Trim, Data: zero}, api.ErrSize)
	}
}

// TestBytes writes bytes of all values: they are read as they were written.
func TestBytes(t *testing.T) {
	every := make([]byte, 256)
	for i := range every {
		every[i] = byte(i)
	}
	blocks := model.New(3)
	for i := 0; i <= 256-16; i++ {
		data := string(every[i : i+16])
		holdRun(t, blocks, []api.Command{write(1, data), read(1)}, []string{zero, data, zero}, []api.Result{{}, is(data)})
	}
	for _, data := range []string{strings.Repeat("\xff", 16), strings.Repeat("\U0001f4be", 4), strings.Repeat(" ", 16)} {
		holdRun(t, blocks, []api.Command{write(2, data), read(2)}, []string{zero, zero, data}, []api.Result{{}, is(data)})
	}
	for _, data := range []string{strings.Repeat("\u00e9", 16), strings.Repeat("\U0001f4be", 16), strings.Repeat("\x00", 15), zero + "\x00"} {
		holdRefused(t, blocks, write(2, data), api.ErrSize)
	}
}

// TestTwoErrors has commands to which two or three errors apply: a strange kind comes first, then a wrong block.
func TestTwoErrors(t *testing.T) {
	for _, n := range []int{0, 1, 2, api.MaxBlocks} {
		l := texts(n)
		for _, block := range outside(n) {
			if n == 0 && block == 0 {
				continue
			}
			for _, size := range []int{1, 15, 17} { // wrong for each kind
				for _, kind := range kinds {
					holdRefused(t, l, api.Command{Kind: kind, Block: block, Data: bytes(size)}, api.ErrRange)
				}
			}
			for _, size := range []int{0, 1, 15, 16, 17} {
				holdRefused(t, l, api.Command{Kind: strange[size], Block: block, Data: bytes(size)}, api.ErrForm)
			}
			holdRefused(t, l, write(block, ""), api.ErrRange)
			holdRefused(t, l, api.Command{Kind: api.Read, Block: block, Data: bytes(16)}, api.ErrRange)
			holdRefused(t, l, api.Command{Kind: api.Trim, Block: block, Data: bytes(16)}, api.ErrRange)
			holdRefused(t, l, api.Command{Kind: api.Flush, Block: block, Data: bytes(16)}, api.ErrRange)
		}
	}
	// A Flush of a block that there is, with data.
	holdRefused(t, texts(2), api.Command{Kind: api.Flush, Block: 1, Data: bytes(16)}, api.ErrRange)
}

// TestStrangeBlocks has blocks of other lengths, as no device has them: a Read returns them as they are.
func TestStrangeBlocks(t *testing.T) {
	l := []string{"", "short", bytes(15), bytes(16), bytes(17), bytes(1 << 16)}
	for i, data := range l {
		holdApply(t, l, read(i), l, is(data))
		holdApply(t, l, write(i, text(1)), with(l, i, text(1)), api.Result{})
		holdApply(t, l, trim(i), with(l, i, zero), api.Result{})
	}
	holdApply(t, l, flush(), l, api.Result{})
}

// TestManyBlocks has more blocks than any device has: the number of blocks is the list's.
func TestManyBlocks(t *testing.T) {
	for _, n := range []int{api.MaxBlocks + 1, 200, 1000} {
		l := texts(n)
		for _, i := range []int{0, 127, 128, n - 1} {
			holdApply(t, l, read(i), l, is(text(i)))
			holdApply(t, l, write(i, text(-1)), with(l, i, text(-1)), api.Result{})
			holdApply(t, l, trim(i), with(l, i, zero), api.Result{})
		}
		for _, kind := range named {
			holdRefused(t, l, of(kind, n), api.ErrRange)
		}
		holdApply(t, l, flush(), l, api.Result{})
		run := []api.Command{write(n-1, text(-1)), read(n - 1), read(n), read(128)}
		holdRun(t, l, run[:3], with(l, n-1, text(-1)), []api.Result{{}, is(text(-1)), {Err: api.ErrRange}})
		holdRun(t, l, run[3:], l, []api.Result{is(text(128))})
	}
}

// TestRun has no command, one, and many, of which some are refused.
func TestRun(t *testing.T) {
	given := []string{"aaaaaaaaaaaaaaaa", "bbbbbbbbbbbbbbbb"}
	c := "cccccccccccccccc"
	for _, x := range []struct {
		l    []api.Command
		want []string
		r    []api.Result
	}{
		{nil, given, nil},
		{[]api.Command{read(1)}, given, []api.Result{{Data: given[1]}}},
		{[]api.Command{write(0, c)}, []string{c, given[1]}, []api.Result{{}}},
		{[]api.Command{trim(1)}, []string{given[0], zero}, []api.Result{{}}},
		{[]api.Command{flush()}, given, []api.Result{{}}},
		{[]api.Command{read(2)}, given, []api.Result{{Err: api.ErrRange}}},
		{[]api.Command{write(0, c), write(0, given[1])}, []string{given[1], given[1]}, []api.Result{{}, {}}},
		{[]api.Command{write(0, c), write(0, c[1:]), read(0)}, []string{c, given[1]}, []api.Result{{}, {Err: api.ErrSize}, is(c)}},
		{
			[]api.Command{read(0), {}, write(1, c), write(2, c), trim(-1), read(1), flush(), trim(0), {Kind: 4, Block: 1}, read(0), {Kind: 1, Data: c}},
			[]string{zero, c},
			[]api.Result{is(given[0]), {Err: 3}, {}, {Err: 1}, {Err: 1}, is(c), {}, {}, {Err: 1}, is(zero), {Err: 2}},
		},
		{[]api.Command{trim(0), trim(1), trim(2)}, []string{zero, zero}, []api.Result{{}, {}, {Err: 1}}},
	} {
		holdRun(t, given, x.l, x.want, x.r)
	}
	holdRun(t, nil, []api.Command{read(0), flush(), {Kind: math.MaxInt}}, nil, []api.Result{{Err: 1}, {}, {Err: 3}})
	holdRun(t, nil, nil, nil, nil)
}
