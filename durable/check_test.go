package durable_test

import (
	"fmt"
	"math"
	"slices"
	"testing"

	"zoneappend/api"
)

// tooLong is a history of many events.
func tooLong(n int) []api.Event {
	var l []api.Event
	for i := range n {
		l = append(l, call(i, flush()))
	}
	return l
}

// wrong are histories that are not right, each for one reason.
func wrong() map[string][]api.Event {
	queue, below, result := call(0, a), call(0, a), call(0, a)
	queue.Queue, below.Queue, result.Result.Data = 4, -1, "x"
	elsewhere := done(0, a)
	elsewhere.Queue++
	return map[string][]api.Event{
		"no invocation":    {done(0, a)},
		"invoked too late": {done(0, a), call(0, a)},
		"invoked twice":    {call(0, a), call(0, a)},
		"answered twice":   {call(0, a), done(0, a), done(0, a)},
		"invoked again":    {call(0, a), done(0, a), call(0, a)},
		"another one":      {call(0, a), done(0, b)},
		"another queue":    {call(0, a), elsewhere},
		"a Write's data":   {call(0, a), back(0, a, api.Result{Data: text(1)})},
		"a short Read":     {call(0, read(0)), back(0, read(0), api.Result{Data: "short"})},
		"no such result":   {call(0, a), failed(0, a, api.ErrBusy)},
		"no such queue":    {queue},
		"a queue below":    {below},
		"with a result":    {result},
		"below zero":       {call(-1, a)},
		"the last one":     append(whole(0, a), done(1, a)),
		"the Flush":        join(whole(0, a), []api.Event{call(1, f), done(2, f)}),
		"all are":          {done(0, f), done(1, f), call(-1, f)},
	}
}

// TestHistoriesThatAreNotRight has histories that are not right, also with something right ahead of them and behind them.
func TestHistoriesThatAreNotRight(t *testing.T) {
	more := []api.Event{call(60, c), done(60, c), call(61, f), done(61, f)}
	for name, part := range wrong() {
		t.Run(name, func(t *testing.T) {
			for _, l := range [][]api.Event{part, join(more, part), join(part, more), join(more[:2], part, more[2:])} {
				for block := -1; block <= 2; block++ {
					holdAllowed(t, two(), l, block, nil)
				}
				for _, found := range [][]string{two(), texts(1, 50), texts(3, 50), nil, texts(0)} {
					holdCheck(t, two(), l, found, api.ErrOrder)
				}
			}
		})
	}
}

// founds are lists of values: none, too few, too many, as many as there are blocks, and each of them with a value that cannot be.
func founds(n int) [][]string {
	var all [][]string
	for _, k := range []int{0, 1, n - 1, n, n + 1, 2 * n, 127, 128, 129} {
		if k < 0 {
			continue
		}
		right := slices.Repeat([]string{zero}, k)
		all = append(all, right, slices.Repeat([]string{bytes(15)}, k), slices.Repeat([]string{text(9)}, k))
		if k > 0 {
			all = append(all, append(slices.Clone(right[1:]), bytes(17)), append([]string{""}, right[1:]...))
		}
	}
	return all
}

// TestErrors has inputs to which one, two or more of the errors apply: Check returns the first one, and Allowed nothing with the first two.
func TestErrors(t *testing.T) {
	right := whole(0, read(0))
	blocks := func(n int) []string { return slices.Repeat([]string{zero}, n) }
	short := func(n int) []string { return append(blocks(n-1), "short") }
	hold := func(blocks []string, l []api.Event, want api.Errno) {
		t.Helper()
		for _, found := range founds(len(blocks)) {
			holdCheck(t, blocks, l, found, want)
		}
		for _, block := range []int{-1, 0, len(blocks) - 1, len(blocks), math.MinInt, math.MaxInt} {
			holdAllowed(t, blocks, l, block, nil)
		}
	}
	for _, many := range [][]string{nil, blocks(129), short(129), blocks(300)} {
		for _, l := range [][]api.Event{nil, right, tooLong(401), wrong()["invoked twice"], append(tooLong(400), done(999, f))} {
			hold(many, l, api.ErrRange)
		}
	}
	for _, n := range []int{1, 2, 128} {
		for _, blocks := range [][]string{blocks(n), short(n)} {
			hold(blocks, tooLong(401), api.ErrLimit)
			hold(blocks, append(tooLong(400), call(0, a)), api.ErrLimit)
			hold(blocks, append(tooLong(399), done(999, f)), api.ErrOrder)
			hold(blocks, wrong()["answered twice"], api.ErrOrder)
			hold(blocks, wrong()["the last one"], api.ErrOrder)
		}
		for _, l := range [][]api.Event{nil, right, tooLong(400), join(whole(0, a), whole(1, f))} {
			hold(short(n), l, api.ErrSize)
		}
	}
	for _, n := range []int{1, 2, 128} {
		for _, l := range [][]api.Event{nil, right, tooLong(400)} {
			for _, found := range founds(n) {
				want := api.OK
				if len(found) != n {
					want = api.ErrSize
				} else if !slices.Equal(found, blocks(n)) {
					want = api.ErrCorrupt
				}
				holdCheck(t, blocks(n), l, found, want)
			}
			for _, block := range []int{0, n / 2, n - 1} {
				holdAllowed(t, blocks(n), l, block, []string{zero})
			}
		}
	}
}

// TestSizesOfBlocks has blocks of which the first, a middle or the last one has not 16 bytes, also if it was overwritten and flushed.
func TestSizesOfBlocks(t *testing.T) {
	for _, n := range []int{1, 2, 3, 128} {
		for _, i := range []int{0, n / 2, n - 1} {
			for _, size := range []int{0, 1, 15, 16, 17, 32, 40} {
				blocks := slices.Repeat([]string{zero}, n)
				blocks[i] = bytes(size)
				found := slices.Clone(blocks)
				e, want, other := api.OK, []string{bytes(16)}, []string{zero}
				if size != 16 {
					e, want, other = api.ErrSize, nil, nil
				}
				for b := range n {
					if b == i {
						holdAllowed(t, blocks, nil, b, want)
					} else {
						holdAllowed(t, blocks, nil, b, other)
					}
				}
				holdCheck(t, blocks, nil, found, e)
				l := join(whole(0, write(i, text(1))), whole(9, f))
				found[i] = text(1)
				holdCheck(t, blocks, l, found, e)
				if size == 16 {
					want = texts(1)
				}
				holdAllowed(t, blocks, l, i, want)
			}
		}
	}
}

// TestFound has a wrong element at the first, a middle and the last place: of each size, and with values that other blocks may be.
func TestFound(t *testing.T) {
	for _, n := range []int{1, 2, 3, 5, 128} {
		var blocks, found []string
		var l []api.Event
		for b := range n {
			blocks = append(blocks, text(300+b))
			switch b % 3 {
			case 0: // the last but one is covered
				l = append(l, onto(join([]api.Event{call(3*b, a), done(3*b, a)}, whole(3*b+1, write(0, text(b)))), b)...)
				found = append(found, text(b))
			case 1:
				l = append(l, whole(3*b, trim(b))...)
				found = append(found, zero)
			case 2:
				found = append(found, blocks[b])
			}
		}
		l = append(l, whole(1000, f)...)
		holdCheck(t, blocks, l, found, api.OK)
		for _, b := range []int{0, n / 2, n - 1} {
			right := found[b]
			values := []string{"", bytes(15), bytes(16), bytes(17), right[:15], right[1:], right + "\x00", right + right, text(999), text(1000 + b)}
			if b%3 != 1 {
				values = append(values, zero, found[b][:15]+"\x80", "\x80"+found[b][1:], found[b][:8]+"\x00"+found[b][9:])
			}
			if b%3 == 0 {
				values = append(values, text(1), blocks[b])
			}
			t.Run(fmt.Sprint(n, b), func(t *testing.T) {
				for _, value := range values {
					with := slices.Clone(found)
					with[b] = value
					holdCheck(t, blocks, l, with, api.ErrCorrupt)
					holdCheck(t, blocks, l, with[:n-1], api.ErrSize)
					holdCheck(t, blocks, l, append(with, value), api.ErrSize)
				}
				holdCheck(t, blocks, l, slices.Delete(slices.Clone(found), b, b+1), api.ErrSize)
				holdCheck(t, blocks, l, slices.Insert(slices.Clone(found), b, right), api.ErrSize)
			})
		}
		holdCheck(t, blocks, l, nil, api.ErrSize)
		if n > 1 {
			holdCheck(t, blocks, l, slices.Repeat([]string{text(999)}, n), api.ErrCorrupt)
			holdCheck(t, blocks, l, append(slices.Clone(found[1:]), found[0]), api.ErrCorrupt) // one place too early
		}
	}
}

// TestNothing has the empty history: each block is what it was.
func TestNothing(t *testing.T) {
	for _, n := range []int{1, 2, 3, 128} {
		var blocks []string
		for b := range n {
			blocks = append(blocks, text(b))
		}
		holdCheck(t, blocks, nil, blocks, api.OK)
		for b := range n {
			holdAllowed(t, blocks, nil, b, texts(b))
		}
		for _, b := range []int{0, n / 2, n - 1} {
			found := slices.Clone(blocks)
			found[b] = zero
			holdCheck(t, blocks, nil, found, api.ErrCorrupt)
		}
	}
	holdAllowed(t, nil, nil, 0, nil)
	holdCheck(t, nil, nil, nil, api.ErrRange)
	holdCheck(t, nil, nil, []string{zero}, api.ErrRange)
}
