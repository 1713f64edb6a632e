package ring_test

import (
	"math"
	"slices"
	"testing"

	"zoneappend/api"
	"zoneappend/ring"
)

// TestExample has the chapter's example.
func TestExample(t *testing.T) {
	r, e := ring.Submit(made(t, 1), request(4))
	if e != api.OK || !same(r, of(1, 4)) {
		t.Errorf("%v, %d", r, e)
	}
	holdRefused(t, r, api.ErrBusy, 5)
}

// TestReadme has what README.md does with a queue of two requests.
func TestReadme(t *testing.T) {
	flush := api.Command{Kind: api.Flush}
	read := api.Request{Serial: 3, Command: api.Command{Kind: api.Read, Block: 5}}
	var e [5]api.Errno
	var x [3]api.Request
	var ok [3]bool
	r, first := ring.New(2)
	e[0] = first
	r, e[1] = ring.Submit(r, read)
	r, e[2] = ring.Submit(r, api.Request{Serial: 3, Command: flush})
	r, e[3] = ring.Submit(r, api.Request{Serial: 7, Command: flush})
	r, e[4] = ring.Submit(r, api.Request{Serial: 8, Command: flush})
	for i := range x {
		r, x[i], ok[i] = ring.Take(r)
	}
	if e != [5]api.Errno{api.OK, api.OK, api.ErrOrder, api.OK, api.ErrBusy} {
		t.Errorf("%v", e)
	}
	if x != [3]api.Request{read, {Serial: 7, Command: flush}, {}} || ok != [3]bool{true, true, false} {
		t.Errorf("%v, %v", x, ok)
	}
	if !same(r, of(2)) || !ring.Valid(r) {
		t.Errorf("%v", r)
	}
}

// TestSubmit adds requests to queues with room: with numbers that are one more than the last one's, and greater ones.
func TestSubmit(t *testing.T) {
	for depth := 1; depth <= api.MaxDepth; depth++ {
		for _, serial := range slices.Concat([]int{0, 1, 2, 7, 8, 9}, above) { // an empty queue has no last number
			holdAdded(t, of(depth), request(serial))
			holdAdded(t, api.Ring{Depth: depth, Items: []api.Request{}}, request(serial))
		}
		for n := 1; n < depth; n++ {
			for _, serials := range samples(n) {
				for _, serial := range slices.Concat([]int{0, 1, 2, 7, 8, 9}, above) {
					if serial > serials[n-1] {
						holdAdded(t, of(depth, serials...), request(serial))
					}
				}
				if last := serials[n-1]; last < greatest {
					holdAdded(t, of(depth, serials...), request(last+1))
				}
			}
		}
	}
}

// TestSubmitAsksOnlyNumbers adds requests whose commands are not possible, and one that an item has already.
func TestSubmitAsksOnlyNumbers(t *testing.T) {
	r := of(4, 3, 6)
	for _, x := range []api.Command{
		{}, {Kind: -1}, {Kind: 5}, {Kind: math.MinInt, Block: math.MinInt}, {Kind: api.Read, Block: -1, Data: "x"},
		{Kind: api.Write}, {Kind: api.Write, Block: 1 << 62, Data: string(make([]byte, 1000))}, {Kind: api.Flush, Block: 7}, r.Items[1].Command,
	} {
		holdAdded(t, r, api.Request{Serial: 7, Command: x})
		holdAdded(t, of(1), api.Request{Serial: 0, Command: x})
		holdSubmit(t, r, api.Request{Serial: 6, Command: x}, r, api.ErrOrder)
		taken := api.Ring{Depth: 4, Items: []api.Request{{Serial: 1, Command: x}, {Serial: 8, Command: x}}}
		holdTaken(t, taken, api.Ring{Depth: 4, Items: taken.Items[1:]}, api.Request{Serial: 1, Command: x}, true)
	}
}

// TestSubmitOrder has numbers that are negative, that of an item, less, and between those of two items.
func TestSubmitOrder(t *testing.T) {
	for depth := 1; depth <= api.MaxDepth; depth++ {
		holdRefused(t, of(depth), api.ErrOrder, negatives()...)
		for n := 1; n < depth; n++ {
			for _, serials := range samples(n) {
				r, last := of(depth, serials...), serials[n-1]
				holdRefused(t, r, api.ErrOrder, negatives()...)
				holdRefused(t, r, api.ErrOrder, serials...)
				holdRefused(t, r, api.ErrOrder, 0, last/2, last-1, last)
				holdSubmit(t, r, r.Items[n-1], r, api.ErrOrder)
			}
			if n > 1 {
				holdRefused(t, of(depth, row(3, 5, n)...), api.ErrOrder, 1, 2, 4, 6, 7, 3+5*(n-1)-1)
			}
		}
	}
}

// TestSubmitToFull has requests that would be right, if the queue were not full.
func TestSubmitToFull(t *testing.T) {
	for depth := 1; depth <= api.MaxDepth; depth++ {
		for _, serials := range samples(depth) {
			r, last := of(depth, serials...), serials[depth-1]
			if last < greatest {
				holdRefused(t, r, api.ErrBusy, last+1, greatest)
			}
		}
	}
}

// TestSubmitTwoErrors has requests that are out of order for a full queue.
func TestSubmitTwoErrors(t *testing.T) {
	for depth := 1; depth <= api.MaxDepth; depth++ {
		for _, serials := range samples(depth) {
			r, last := of(depth, serials...), serials[depth-1]
			holdRefused(t, r, api.ErrBusy, negatives()...)
			holdRefused(t, r, api.ErrBusy, 0, last/2, last-1, last)
		}
	}
}

// TestSubmitToWrong has queues that are not valid, each with and without Depth items, and with requests in and out of order.
func TestSubmitToWrong(t *testing.T) {
	for _, r := range []api.Ring{
		of(0), // as many items as Depth: two errors, or all three
		of(9, row(0, 1, 9)...),
		of(1, -1),
		of(1, math.MinInt),
		of(3, 4, 4, 5),
		of(3, 4, 5, 5),
		of(3, 6, 5, 7),
		of(3, 5, 7, 6),
		of(3, -1, 0, 1),
		of(8, with(row(0, 1, 8), 4, 9)...),
		of(-1), // ErrState alone, or with ErrOrder
		of(9),
		of(9, 0, 1),
		of(0, 0),
		of(1, 0, 1),
		of(2, -1),
		of(2, -2),
		of(4, 4, 4, 5),
		of(4, 6, 5, 7),
		of(8, with(row(0, 1, 7), 4, 9)...),
		of(math.MaxInt),
		of(math.MinInt, 3),
	} {
		refuse(t, r)
		holdRefused(t, r, api.ErrState, slices.Concat([]int{0, 1, 2, 3, 4, 5, 6, 7, 8, 9, 10}, negatives(), above)...)
	}
}

// TestTake takes requests until there is none.
func TestTake(t *testing.T) {
	for depth := 1; depth <= api.MaxDepth; depth++ {
		for n := range depth + 1 {
			for _, serials := range samples(n) {
				r := of(depth, serials...)
				for i, serial := range serials {
					holdTaken(t, r, of(depth, serials[i+1:]...), request(serial), true)
					r, _, _ = ring.Take(r)
					holdValid(t, r, true)
				}
				for range 3 { // nothing comes of an empty queue, however often
					holdTaken(t, r, of(depth), api.Request{}, false)
					r, _, _ = ring.Take(r)
				}
				holdAdded(t, r, request(0))
			}
		}
		holdTaken(t, api.Ring{Depth: depth, Items: []api.Request{}}, of(depth), api.Request{}, false)
		holdTaken(t, api.Ring{Depth: depth, Items: make([]api.Request, 1)}, of(depth), api.Request{}, true)
	}
}

// TestTakeMakesRoom has full queues, of which one request is taken: one more can be added, whose number is greater than the last one's.
func TestTakeMakesRoom(t *testing.T) {
	for depth := 1; depth <= api.MaxDepth; depth++ {
		r, _, _ := ring.Take(of(depth, row(0, 1, depth)...))
		if depth > 1 {
			holdRefused(t, r, api.ErrOrder, 0, depth-1)
		}
		holdAdded(t, r, request(depth))
		r, _ = ring.Submit(r, request(depth))
		holdRefused(t, r, api.ErrBusy, depth, depth+1)
	}
}
