package linear_test

import (
	"slices"
	"testing"

	"zoneappend/api"
	"zoneappend/linear"
)

// shuffle lays histories side by side, so that their events take turns.
func shuffle(parts ...[]api.Event) []api.Event {
	var l []api.Event
	for i := 0; ; i++ {
		more := false
		for _, part := range parts {
			if i < len(part) {
				l = append(l, part[i])
				more = true
			}
		}
		if !more {
			return l
		}
	}
}

// good and bad are histories of the block 0, which is zero at first: ones that have a linearization, and ones that have none.
func good() [][]api.Event {
	w := write(0, text(1))
	return [][]api.Event{
		nil,
		{call(0, w)},
		whole(0, read(0), zero),
		join(whole(0, w, ""), whole(1, read(0), text(1))),
		join([]api.Event{call(0, w)}, whole(1, read(0), zero), whole(2, read(0), text(1))),
		{call(0, w), call(1, trim(0)), call(2, read(0)), done(1, trim(0), ""), done(0, w, ""), done(2, read(0), text(1))},
		{call(0, w), call(1, read(0)), failed(0, w, api.ErrFull), done(1, read(0), zero)},
	}
}
func bad() [][]api.Event {
	w := write(0, text(1))
	return [][]api.Event{
		whole(0, read(0), text(1)),
		join(whole(0, w, ""), whole(1, read(0), zero)),
		join([]api.Event{call(0, w)}, whole(1, read(0), text(1)), whole(2, read(0), zero), []api.Event{done(0, w, "")}),
		{call(0, w), call(1, read(0)), failed(0, w, api.ErrFull), done(1, read(0), text(1))},
		join([]api.Event{call(0, read(0)), call(2, w)}, whole(1, trim(0), ""), []api.Event{done(2, w, ""), done(0, read(0), text(2))}),
	}
}

// TestFindOfBlocks has some blocks, of which each has a linearization, or one alone has none.
func TestFindOfBlocks(t *testing.T) {
	const n = 4
	blocks := slices.Repeat([]string{zero}, n)
	for i := range good() {
		var parts [][]api.Event
		for b := range n {
			parts = append(parts, moved(onto(good()[(i+3*b)%len(good())], b), 10*b))
		}
		flushes := []api.Event{call(90, flush()), call(91, flush()), done(91, flush(), ""), done(90, flush(), ""), call(92, flush())}
		for _, more := range [][]api.Event{nil, flushes, {call(90, flush()), failed(90, flush(), api.ErrClosed)}} {
			all := append(slices.Clone(parts), more)
			holdFind(t, blocks, join(all...), true)
			holdFind(t, blocks, shuffle(all...), true)
			slices.Reverse(all)
			holdFind(t, blocks, shuffle(all...), true)
			holdFind(t, blocks[:n-1], shuffle(all...), isFreeOf(shuffle(all...), n-1))
			slices.Reverse(all)
			for b := range n {
				for _, part := range bad() {
					one := slices.Clone(all)
					one[b] = moved(onto(part, b), 10*b)
					holdFind(t, blocks, join(one...), false)
					holdFind(t, blocks, shuffle(one...), false)
				}
			}
		}
	}
}

// isFreeOf tells whether no operation on a block was answered with OK.
func isFreeOf(l []api.Event, block int) bool {
	return !slices.ContainsFunc(l, func(e api.Event) bool { return e.Return && e.Result.Err == api.OK && e.Command.Block == block })
}

// TestFindWithOthers has a history with operations on blocks that are not there and of no kind, at each place: pending and failed ones are in
// no order, however many there are, and none can be answered with OK.
func TestFindWithOthers(t *testing.T) {
	l := join(whole(0, write(1, text(1)), ""), whole(2, read(1), text(1)))
	commands := []api.Command{{}, {Kind: api.Flush, Block: 1}, {Kind: api.Flush, Block: -1}, {Kind: api.Flush, Data: "x"}, read(2), trim(-1)}
	for _, n := range strange {
		commands = append(commands, api.Command{Kind: n}, api.Command{Kind: n, Block: 1}, read(n), trim(n), write(n, text(1)))
	}
	for i := range len(l) + 1 {
		for _, x := range commands {
			data := ""
			if x.Kind == api.Read {
				data = zero
			}
			if x.Kind >= api.Read && x.Kind <= api.Trim && x.Block == 1 || x.Kind == api.Read && x.Block == 0 {
				continue
			}
			holdFind(t, two(), slices.Insert(slices.Clone(l), i, call(9, x)), true)
			holdFind(t, two(), slices.Insert(slices.Clone(l), i, call(9, x), failed(9, x, api.ErrClosed)), true)
			holdFind(t, two(), slices.Insert(slices.Clone(l), i, call(9, x), done(9, x, data)), false)
		}
		holdFind(t, two(), slices.Insert(slices.Clone(l), i, call(9, flush())), true)
		holdFind(t, two(), slices.Insert(slices.Clone(l), i, call(9, flush()), done(9, flush(), "")), true)
	}
	var many []api.Event
	for i := range 30 { // more than 20 operations on no block
		x := read(2)
		if i >= 25 {
			x = api.Command{Kind: 7}
		}
		many = append(many, call(10+i, x), failed(10+i, x, api.ErrRange))
	}
	holdFind(t, two(), join(l, many), true)
	holdFind(t, append(two(), zero), join(l, many), false)
}

// TestFindOfMany has blocks with up to 20 operations each, and then one of them with one more.
func TestFindOfMany(t *testing.T) {
	for _, n := range []int{1, 2, 5, 9} {
		blocks := slices.Repeat([]string{zero}, n)
		var parts [][]api.Event
		for b := range n {
			part := whole(100*b, write(b, text(b)), "")
			for i := range 19 {
				part = append(part, whole(100*b+i+1, read(b), text(b))...)
			}
			parts = append(parts, part)
		}
		var flushes []api.Event
		for i := range 18 {
			flushes = append(flushes, whole(2000+i, flush(), "")...)
		}
		l := shuffle(append(parts, flushes)...)
		holdFind(t, blocks, l, true)
		holdFind(t, blocks, join(append(parts, flushes)...), true)
		for b := range n {
			for _, x := range []api.Command{read(b), write(b, text(9)), trim(b), write(b, "short")} {
				holdFind(t, blocks, join(l, []api.Event{call(3000, x)}), false)
				holdFind(t, blocks, join([]api.Event{call(3000, x), failed(3000, x, api.ErrClosed)}, l), false)
			}
		}
		holdFind(t, blocks, join(l, []api.Event{call(3000, flush())}), true)
		holdFind(t, blocks, join(l, []api.Event{call(3000, read(n))}), true)
	}
}

// TestFindOfAllBlocks has as many blocks as there can be, and operations on each of them.
func TestFindOfAllBlocks(t *testing.T) {
	blocks := slices.Repeat([]string{zero}, api.MaxBlocks)
	var l []api.Event
	for b := range blocks {
		l = append(l, call(2*b, write(b, text(b))))
		if b > 0 {
			l = append(l, whole(2*b-1, read(b-1), text(b-1))...)
		}
	}
	order, ok := linear.Find(blocks, l)
	holdFound(t, blocks, l, order, ok, true)
	l[len(l)-1].Result.Data = zero
	order, ok = linear.Find(blocks, l)
	holdFound(t, blocks, l, order, ok, true)
	l[len(l)-1].Result.Data = text(0)
	order, ok = linear.Find(blocks, l)
	holdFound(t, blocks, l, order, ok, false)
}

// TestOrderOfBlocks has operations on some blocks one behind the other, in all orders of the blocks and of the Serials: there is one
// linearization.
func TestOrderOfBlocks(t *testing.T) {
	blocks := slices.Repeat([]string{zero}, 3)
	for _, p := range orders([]int{0, 1, 2, 3}) {
		if len(p) < 4 {
			continue
		}
		var l []api.Event
		var want []int
		for round := range 3 {
			for i, b := range p {
				serial := 10*p[(i+round)%4] + round
				x := write(b, text(b))
				if b == 3 {
					x = flush()
				}
				l = append(l, whole(serial, x, "")...)
				want = append(want, serial)
			}
		}
		order, ok := linear.Find(blocks, l)
		holdFound(t, blocks, l, order, ok, true)
		if !slices.Equal(order, want) {
			t.Fatalf("%v for %+v", order, l)
		}
	}
}
