package linear_test

import (
	"fmt"
	"math"
	"slices"
	"testing"

	"zoneappend/api"
	"zoneappend/linear"
	"zoneappend/model"
)

// TestExample has the chapter's example, and what it would be if one of its events stood elsewhere.
func TestExample(t *testing.T) {
	x := write(0, text(1))
	invoked, answered := call(0, x), done(0, x, "")
	first, second := whole(1, read(0), text(1)), whole(2, read(0), zero)
	l := join([]api.Event{invoked}, first, second, []api.Event{answered})
	holdBlock(t, zero, l)
	holdFind(t, []string{zero}, l, false)
	for _, order := range orders(serials(l)) {
		holdCheck(t, []string{zero}, l, order, api.ErrOrder)
	}
	holdBlock(t, zero, join([]api.Event{invoked}, first, second)) // also if the Write is never answered
	holdBlock(t, zero, join([]api.Event{invoked}, second, first, []api.Event{answered}), text(1))
	holdBlock(t, zero, join(first, []api.Event{invoked}, second, []api.Event{answered}))
	holdBlock(t, text(1), join(first, []api.Event{invoked}, second, []api.Event{answered}))
	at := []api.Event{invoked, call(1, read(0)), call(2, read(0)), done(1, read(0), text(1)), done(2, read(0), zero), answered}
	holdBlock(t, zero, at, text(1)) // the Reads at the same time
	holdCheck(t, []string{zero}, at, []int{2, 0, 1}, api.OK)
}

// TestReadme has what README.md does with linearizations.
func TestReadme(t *testing.T) {
	blocks := model.New(2)
	w := api.Command{Kind: api.Write, Block: 1, Data: "0123456789abcdef"}
	r := api.Command{Kind: api.Read, Block: 1}
	l := []api.Event{
		{Queue: 0, Serial: 0, Command: w},
		{Queue: 1, Serial: 1, Command: r},
		{Return: true, Queue: 1, Serial: 1, Command: r, Result: api.Result{Data: w.Data}},
	}
	if e := linear.Check(blocks, l, []int{0, 1}); e != api.OK {
		t.Error(e)
	}
	if e := linear.Check(blocks, l, []int{1, 0}); e != api.ErrOrder {
		t.Error(e)
	}
	if order, ok := linear.Find(blocks, l); !ok || !slices.Equal(order, []int{0, 1}) {
		t.Error(order, ok)
	}
	l = append(l,
		api.Event{Queue: 1, Serial: 2, Command: r},
		api.Event{Return: true, Queue: 1, Serial: 2, Command: r, Result: api.Result{Data: blocks[1]}},
	)
	if order, ok := linear.Find(blocks, l); ok || len(order) > 0 {
		t.Error(order, ok)
	}
	w.Block = 0
	only := []api.Event{{Serial: 0, Command: w}}
	if order, ok := linear.Block(blocks[0], only); !ok || linear.Check(blocks, only, order) != api.OK {
		t.Error(order, ok)
	}
	if values := linear.Values(blocks[0], only); !slices.Equal(values, []string{blocks[0], w.Data}) {
		t.Errorf("%q", values)
	}
}

// orders are all lists of different numbers out of some.
func orders(among []int) [][]int {
	all := [][]int{nil}
	for i, n := range among {
		rest := slices.Concat(among[:i], among[i+1:])
		for _, o := range orders(rest) {
			all = append(all, append([]int{n}, o...))
		}
	}
	return all
}

// chain is a right history of operations one after the other that change nothing, and their only linearization.
func chain(n int) ([]api.Event, []int) {
	var l []api.Event
	var order []int
	for i := range n {
		x, data := read(i%2), text(i%2)
		if i%3 == 2 {
			x, data = flush(), ""
		}
		l = append(l, whole(3*i+5, x, data)...)
		order = append(order, 3*i+5)
	}
	return l, order
}

// two are the blocks of a chain.
func two() []string { return []string{text(0), text(1)} }

// TestCheckOfChain has all orders near that of a chain: each reason for which one is no linearization alone, at each place.
func TestCheckOfChain(t *testing.T) {
	for _, n := range []int{1, 2, 3, 7} {
		l, order := chain(n)
		holdCheck(t, two(), l, order, api.OK)
		for i := range n + 1 {
			for _, s := range []int{0, 4, 6, 3*n + 5, -5, -1, 1<<32 + 5, math.MaxInt, math.MinInt} {
				holdCheck(t, two(), l, slices.Insert(slices.Clone(order), i, s), api.ErrOrder) // no operation has it
			}
			for k := range n {
				holdCheck(t, two(), l, slices.Insert(slices.Clone(order), i, order[k]), api.ErrOrder) // twice
			}
		}
		for i := range n {
			holdCheck(t, two(), l, slices.Delete(slices.Clone(order), i, i+1), api.ErrOrder) // left out
			for k := range i {
				swapped := slices.Clone(order)
				swapped[i], swapped[k] = order[k], order[i]
				holdCheck(t, two(), l, swapped, api.ErrOrder)
				early := slices.Insert(slices.Delete(slices.Clone(order), i, i+1), k, order[i])
				holdCheck(t, two(), l, early, api.ErrOrder) // ahead of those that are before it
				late := slices.Insert(slices.Delete(slices.Clone(order), k, k+1), i, order[k])
				holdCheck(t, two(), l, late, api.ErrOrder) // behind those that it is before
			}
		}
		holdCheck(t, two(), l, nil, api.ErrOrder)
		holdCheck(t, two(), l, slices.Concat(order, order), api.ErrOrder)
	}
}

// TestCheckOfResults has a chain of which one operation, at each place, was answered with something else than model.Apply says.
func TestCheckOfResults(t *testing.T) {
	l, order := chain(7)
	for i := range order {
		was := l[2*i].Command
		for _, e := range []struct {
			x    api.Command
			r    api.Result
			want api.Errno
		}{
			{read(0), api.Result{Data: text(0)}, api.OK}, {read(0), api.Result{Data: text(1)}, api.ErrOrder},
			{read(0), api.Result{Data: zero}, api.ErrOrder}, {read(1), api.Result{Data: text(0)}, api.ErrOrder},
			{read(0), api.Result{Data: text(0)[:15] + "x"}, api.ErrOrder}, {read(0), api.Result{Data: "x" + text(0)[1:]}, api.ErrOrder},
			{read(2), api.Result{Data: text(0)}, api.ErrOrder}, {read(-1), api.Result{Data: zero}, api.ErrOrder},
			{read(1 << 32), api.Result{Data: text(0)}, api.ErrOrder},
			{api.Command{Kind: api.Read, Data: "x"}, api.Result{Data: text(0)}, api.ErrOrder},
			{write(0, text(0)), api.Result{}, api.OK}, {write(2, text(0)), api.Result{}, api.ErrOrder},
			{write(0, bytes(15)), api.Result{}, api.ErrOrder}, {write(0, bytes(17)), api.Result{}, api.ErrOrder},
			{write(0, ""), api.Result{}, api.ErrOrder}, {write(-1, text(0)), api.Result{}, api.ErrOrder},
			{trim(2), api.Result{}, api.ErrOrder}, {api.Command{Kind: api.Trim, Data: zero}, api.Result{}, api.ErrOrder},
			{flush(), api.Result{}, api.OK}, {api.Command{Kind: api.Flush, Block: 1}, api.Result{}, api.ErrOrder},
			{api.Command{Kind: api.Flush, Data: "x"}, api.Result{}, api.ErrOrder},
			{api.Command{}, api.Result{}, api.ErrOrder}, {api.Command{Kind: 5}, api.Result{}, api.ErrOrder},
		} {
			l[2*i].Command, l[2*i+1].Command, l[2*i+1].Result = e.x, e.x, e.r
			holdCheck(t, two(), l, order, e.want)
			holdFind(t, two(), l, e.want == api.OK)
			open := slices.Delete(slices.Clone(l), 2*i+1, 2*i+2)
			holdCheck(t, two(), open, order, api.OK) // a pending one has no result
			holdCheck(t, two(), open, slices.Delete(slices.Clone(order), i, i+1), api.OK)
			holdFind(t, two(), open, true)
		}
		l[2*i].Command, l[2*i+1].Command = was, was
		l[2*i+1].Result = api.Result{}
		if was.Kind == api.Read {
			l[2*i+1].Result.Data = text(was.Block)
		}
		holdCheck(t, two(), l, order, api.OK)
	}
}

// TestCheckOfErrors has a chain with an operation, at each place, that was answered with an error: it is not in the order, also where
// model.Apply says this very error.
func TestCheckOfErrors(t *testing.T) {
	l, order := chain(7)
	for i := range len(order) + 1 {
		for _, c := range []struct {
			x api.Command
			e api.Errno
		}{
			{read(2), api.ErrRange}, {write(0, "short"), api.ErrSize}, {api.Command{Kind: 9}, api.ErrForm}, {trim(-1), api.ErrRange},
			{read(0), api.ErrClosed}, {write(0, text(0)), api.ErrFull}, {flush(), api.ErrClosed}, {write(0, text(5)), api.ErrFull},
			{read(0), api.ErrRange}, {trim(0), api.ErrForm}, {api.Command{Kind: api.Flush, Block: 1}, api.ErrRange},
		} {
			with := slices.Insert(slices.Clone(l), 2*i, call(0, c.x), failed(0, c.x, c.e))
			holdCheck(t, two(), with, order, api.OK)
			holdFind(t, two(), with, true)
			for k := range len(order) + 1 {
				holdCheck(t, two(), with, slices.Insert(slices.Clone(order), k, 0), api.ErrOrder)
			}
		}
	}
}

// TestCheckOfPending has a chain with a pending operation, invoked at each place of it: it may be in the order, though nowhere ahead of what
// was answered before it was invoked, and what was invoked behind it may stand ahead of it and behind it.
func TestCheckOfPending(t *testing.T) {
	l, order := chain(7)
	for i := range len(order) + 1 {
		for _, x := range []api.Command{
			read(0), read(1), flush(), write(0, text(0)), write(1, text(1)), read(2), write(0, "short"), {Kind: 9}, trim(-1),
			{Kind: api.Flush, Block: 3}, {Kind: api.Trim, Data: zero},
		} {
			with := slices.Insert(slices.Clone(l), 2*i, call(0, x))
			holdCheck(t, two(), with, order, api.OK)
			holdFind(t, two(), with, true)
			for k := range len(order) + 1 {
				want := api.OK
				if k < i {
					want = api.ErrOrder
				}
				holdCheck(t, two(), with, slices.Insert(slices.Clone(order), k, 0), want)
			}
			holdCheck(t, two(), with, slices.Concat([]int{0}, order, []int{0}), api.ErrOrder) // twice
		}
	}
}

// TestCheckOfMixed has a history with operations of all kinds, and orders of them.
func TestCheckOfMixed(t *testing.T) {
	a, b, c := write(0, text(7)), write(1, text(8)), write(0, text(9))
	l := []api.Event{
		call(0, a), call(1, b), call(2, flush()), call(3, read(1)), done(3, read(1), text(8)), done(0, a, ""), call(4, c), call(5, read(0)),
		done(5, read(0), text(7)), failed(4, c, api.ErrFull), call(6, trim(1)), call(7, read(1)), done(7, read(1), zero), done(2, flush(), ""),
		call(8, read(0)),
	}
	for _, c := range []struct {
		order []int
		want  api.Errno
	}{
		{[]int{0, 1, 2, 3, 5, 6, 7}, api.OK}, {[]int{1, 3, 0, 5, 6, 7, 2}, api.OK}, {[]int{2, 1, 3, 0, 5, 6, 7}, api.OK},
		{[]int{1, 0, 3, 5, 2, 6, 7}, api.OK}, {[]int{0, 1, 2, 3, 5, 6, 7, 8}, api.OK}, {[]int{0, 1, 2, 3, 5, 6, 8, 7}, api.ErrOrder},
		{[]int{1, 3, 0, 5, 6, 7, 8, 2}, api.ErrOrder}, {[]int{0, 1, 2, 3, 8, 5, 6, 7}, api.ErrOrder}, // 8 was invoked at the end
		{[]int{0, 1, 2, 3, 5, 7}, api.ErrOrder}, {[]int{0, 2, 3, 5, 6, 7}, api.ErrOrder}, {[]int{0, 1, 3, 5, 6, 7}, api.ErrOrder},
		{[]int{0, 1, 2, 3, 5, 6, 7, 4}, api.ErrOrder}, {[]int{0, 1, 2, 3, 6, 5, 7}, api.ErrOrder}, {[]int{2, 1, 3, 0, 6, 7, 5}, api.ErrOrder},
		{[]int{1, 2, 3, 5, 0, 6, 7}, api.ErrOrder}, {[]int{0, 6, 1, 2, 3, 5, 7}, api.ErrOrder}, {[]int{0, 1, 2, 3, 5, 7, 6}, api.ErrOrder},
		{[]int{3, 0, 1, 2, 5, 6, 7}, api.ErrOrder}, {[]int{0, 1, 2, 5, 3, 6, 7}, api.ErrOrder},
	} {
		holdCheck(t, two(), l, c.order, c.want)
		if e := expectCheck(two(), l, c.order); e != c.want {
			t.Errorf("%v: %d expected", c.order, e)
		}
	}
	holdFind(t, two(), l, true)
}

// TestCheckOfNothing has the empty order and the empty history.
func TestCheckOfNothing(t *testing.T) {
	x := write(0, text(1))
	for _, blocks := range [][]string{{zero}, two(), slices.Repeat([]string{zero}, 128)} {
		holdCheck(t, blocks, nil, nil, api.OK)
		holdCheck(t, blocks, nil, []int{0}, api.ErrOrder)
		holdCheck(t, blocks, []api.Event{call(0, x)}, nil, api.OK)
		holdCheck(t, blocks, []api.Event{call(0, x)}, []int{0}, api.OK)
		holdCheck(t, blocks, []api.Event{call(0, x)}, []int{0, 0}, api.ErrOrder)
		holdCheck(t, blocks, []api.Event{call(0, x), failed(0, x, api.ErrFull)}, nil, api.OK)
		holdCheck(t, blocks, []api.Event{call(0, x), failed(0, x, api.ErrFull)}, []int{0}, api.ErrOrder)
		holdCheck(t, blocks, whole(0, x, ""), nil, api.ErrOrder)
		holdCheck(t, blocks, whole(0, x, ""), []int{0}, api.OK)
		holdFind(t, blocks, nil, true)
		holdFind(t, blocks, []api.Event{call(0, x)}, true)
		holdFind(t, blocks, whole(0, x, ""), true)
	}
}

// tooLong is a history of more events than a right one has, or of as many.
func tooLong(n int) []api.Event {
	var l []api.Event
	for i := range n {
		l = append(l, call(i, flush()))
	}
	return l
}

// wrong are histories that are not right, each for one reason.
func wrong() map[string][]api.Event {
	x := read(0)
	queue := call(0, x)
	queue.Queue = 4
	result := call(0, x)
	result.Result.Data = "x"
	return map[string][]api.Event{
		"no invocation":  {done(0, x, zero)},
		"invoked twice":  {call(0, x), call(0, x)},
		"answered twice": {call(0, x), done(0, x, zero), done(0, x, zero)},
		"another one":    {call(0, x), done(0, trim(0), "")},
		"a short result": {call(0, x), done(0, x, "short")},
		"no such result": {call(0, x), failed(0, x, api.ErrBusy)},
		"no such queue":  {queue},
		"with a result":  {result},
		"below zero":     {call(-1, x)},
		"the last one":   append(whole(0, x, zero), done(1, x, zero)),
	}
}

// TestCheckErrors has inputs to which one, two or all of the errors apply: the first one is returned.
func TestCheckErrors(t *testing.T) {
	right := whole(0, read(0), zero)
	short := func(n int) []string { return append(slices.Repeat([]string{zero}, n-1), "short") }
	blocks := func(n int) []string { return slices.Repeat([]string{zero}, n) }
	for _, l := range [][]api.Event{nil, right, tooLong(401), wrong()["invoked twice"]} {
		for _, order := range [][]int{nil, {0}, {7}, {0, 0}} {
			for _, many := range [][]string{nil, blocks(129), short(129), blocks(1000)} {
				holdCheck(t, many, l, order, api.ErrRange)
				holdFind(t, many, l, false)
			}
		}
	}
	for _, order := range [][]int{nil, {0}, {7}, {0, 0}} {
		for _, n := range []int{1, 2, 128} {
			for _, blocks := range [][]string{blocks(n), short(n)} {
				holdCheck(t, blocks, tooLong(401), order, api.ErrLimit)
				holdCheck(t, blocks, append(tooLong(400), call(0, read(0))), order, api.ErrLimit)
				holdFind(t, blocks, tooLong(401), false)
				for _, l := range wrong() {
					holdCheck(t, blocks, l, order, api.ErrOrder)
					holdFind(t, blocks, l, false)
				}
			}
			holdCheck(t, short(n), right, order, api.ErrSize)
			holdCheck(t, short(n), nil, order, api.ErrSize)
			holdCheck(t, short(n), tooLong(400), order, api.ErrSize)
			holdFind(t, short(n), right, false)
			holdFind(t, short(n), nil, false)
		}
	}
	holdCheck(t, blocks(1), right, []int{0}, api.OK)
	holdCheck(t, blocks(128), right, []int{0}, api.OK)
	holdCheck(t, blocks(128), right, nil, api.ErrOrder)
	holdCheck(t, blocks(1), tooLong(400), nil, api.OK)
	holdCheck(t, blocks(1), tooLong(400), []int{399, 5}, api.OK)
	holdFind(t, blocks(128), right, true)
	holdFind(t, blocks(1), tooLong(400), true)
}

// TestSizesOfBlocks has blocks of which the first, a middle or the last one has not 16 bytes.
func TestSizesOfBlocks(t *testing.T) {
	for _, n := range []int{1, 2, 3, 128} {
		for _, i := range []int{0, n / 2, n - 1} {
			for _, size := range []int{0, 1, 15, 16, 17, 32, 40} {
				t.Run(fmt.Sprint(n, i, size), func(t *testing.T) {
					blocks := slices.Repeat([]string{zero}, n)
					blocks[i] = bytes(size)
					want := api.ErrSize
					if size == 16 {
						want = api.OK
					}
					holdCheck(t, blocks, nil, nil, want)
					holdFind(t, blocks, nil, size == 16)
					holdCheck(t, blocks, whole(9, trim(i), ""), []int{9}, want)
					holdFind(t, blocks, whole(9, trim(i), ""), size == 16)
					holdFind(t, blocks, whole(9, read(i), bytes(16)), size == 16)
				})
			}
		}
	}
}
