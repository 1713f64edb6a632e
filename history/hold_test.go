package history_test

import (
	"fmt"
	"math"
	"slices"
	"strings"
	"testing"

	"zoneappend/api"
	"zoneappend/history"
)

// kinds are the kinds of commands.
var kinds = []int{api.Read, api.Write, api.Trim, api.Flush}

// strange are numbers that no kind has. Some of them are a kind in their lowest bits.
var strange = []int{
	0, 5, -1, -2, -3, -4, 6, 7, 1<<8 + 1, 1<<8 + 2, 2 - 1<<8, 1<<16 + 3, 1 << 32, 1<<32 + 1, 1<<32 + 2, 3 - 1<<32, 1 << 62, 1<<62 + 2,
	math.MinInt, math.MinInt + 1, math.MinInt + 2, math.MinInt + 3, math.MaxInt - 1, math.MaxInt,
}

// high are numbers that are greater than all limits, and low are ones that are less than 0. Some are small in their lowest bits.
var (
	high = []int{
		401, 1 << 16, 1<<16 + 1, 1<<31 - 1, 1 << 31, 1<<32 - 1, 1 << 32, 1<<32 + 1, 1 << 40, 1 << 62, 1<<62 + 2, math.MaxInt - 1, math.MaxInt,
	}
	low = []int{-1, -2, -4, -128, -1 << 16, 1 - 1<<16, -1 << 31, -1 << 32, 1 - 1<<32, 2 - 1<<62, math.MinInt, math.MinInt + 1, math.MinInt + 2}
)

// text is a block of 16 bytes, another one for each number.
func text(n int) string { return fmt.Sprintf("<%14d>", n) }

// bytes is data with a number of bytes.
func bytes(n int) string { return strings.Repeat("d", n) }

// read, write, trim and flush are commands.
func read(block int) api.Command { return api.Command{Kind: api.Read, Block: block} }
func write(block int, data string) api.Command {
	return api.Command{Kind: api.Write, Block: block, Data: data}
}
func trim(block int) api.Command { return api.Command{Kind: api.Trim, Block: block} }
func flush() api.Command         { return api.Command{Kind: api.Flush} }

// call is an invocation, and back is a return with some result.
func call(queue, serial int, x api.Command) api.Event {
	return api.Event{Queue: queue, Serial: serial, Command: x}
}
func back(queue, serial int, x api.Command, r api.Result) api.Event {
	return api.Event{Return: true, Queue: queue, Serial: serial, Command: x, Result: r}
}

// done is a return with OK, with data if a Read is answered.
func done(queue, serial int, x api.Command) api.Event {
	if x.Kind == api.Read {
		return back(queue, serial, x, api.Result{Data: text(serial)})
	}
	return back(queue, serial, x, api.Result{})
}

// failed is a return with an error.
func failed(queue, serial int, x api.Command, e api.Errno) api.Event {
	return back(queue, serial, x, api.Result{Err: e})
}

// right are right histories, of no, few and more events. Their Serials are less than 100.
func right() [][]api.Event {
	return [][]api.Event{
		nil,
		{call(0, 0, read(0))},
		{call(3, 9, flush()), done(3, 9, flush())},
		{call(1, 3, trim(1)), call(1, 2, read(1))},
		{call(0, 7, write(2, text(7))), call(0, 4, trim(2)), failed(0, 7, write(2, text(7)), api.ErrFull)},
		{call(0, 1, read(0)), call(1, 2, write(0, text(2))), done(1, 2, write(0, text(2))), done(0, 1, read(0))},
		{call(2, 5, read(1)), done(2, 5, read(1)), call(2, 6, read(1)), failed(2, 6, read(1), api.ErrClosed), call(2, 7, flush())},
		{
			call(0, 0, write(0, text(0))), call(1, 1, read(0)), call(2, 2, trim(1)), call(3, 3, flush()), done(1, 1, read(0)),
			call(1, 4, read(-1)), failed(1, 4, read(-1), api.ErrRange), done(0, 0, write(0, text(0))), done(3, 3, flush()),
			call(0, 5, api.Command{Kind: 9}), failed(0, 5, api.Command{Kind: 9}, api.ErrForm), call(0, 6, write(1, "short")),
			failed(0, 6, write(1, "short"), api.ErrSize), call(3, 7, flush()), done(2, 2, trim(1)),
		},
	}
}

// moved are the same events with other Serials.
func moved(l []api.Event, by int) []api.Event {
	l = slices.Clone(l)
	for i := range l {
		l[i].Serial += by
	}
	return l
}

// within gives use a list in some places in memory: with room behind its last element, where something of others lies, and without. It
// expects that all that is in the list, before it and behind it stays as it was.
func within(t *testing.T, l []api.Event, use func(l []api.Event)) {
	t.Helper()
	n := len(l)
	others := call(1, 1, trim(1))
	whole := slices.Concat([]api.Event{others}, l, []api.Event{others, done(1, 1, trim(1)), others})
	before := slices.Clone(whole)
	for _, given := range [][]api.Event{whole[1 : 1+n], whole[1 : 1+n : 2+n], whole[1 : 1+n : 1+n]} {
		use(given)
		if !slices.Equal(whole, before) {
			t.Fatalf("%+v\nbecame %+v", before, whole)
		}
	}
	if n == 0 {
		use(nil)
		use([]api.Event{})
	}
}

// holdCheck expects what Check returns.
func holdCheck(t *testing.T, blocks int, l []api.Event, want api.Errno) {
	t.Helper()
	within(t, l, func(l []api.Event) {
		t.Helper()
		if e := history.Check(blocks, l); e != want {
			t.Fatalf("Check of %+v for %d blocks: %d, want %d", l, blocks, e, want)
		}
	})
}

// holdOperations expects what Operations and Pending return.
func holdOperations(t *testing.T, l, want []api.Event, pending []int) {
	t.Helper()
	within(t, l, func(l []api.Event) {
		t.Helper()
		if got := history.Operations(l); !slices.Equal(got, want) {
			t.Fatalf("Operations of %+v\n= %+v\nwant %+v", l, got, want)
		}
		if got := history.Pending(l); !slices.Equal(got, pending) {
			t.Fatalf("Pending of %+v\n= %v, want %v", l, got, pending)
		}
	})
}

// holdBefore expects what Before reports.
func holdBefore(t *testing.T, l []api.Event, a, b int, want bool) {
	t.Helper()
	within(t, l, func(l []api.Event) {
		t.Helper()
		if got := history.Before(l, a, b); got != want {
			t.Fatalf("Before of %d and %d in %+v: %v", a, b, l, got)
		}
	})
}

// holdRestrict expects what Restrict returns.
func holdRestrict(t *testing.T, l []api.Event, block int, want []api.Event) {
	t.Helper()
	within(t, l, func(l []api.Event) {
		t.Helper()
		if got := history.Restrict(l, block); !slices.Equal(got, want) {
			t.Fatalf("Restrict of %+v to %d\n= %+v\nwant %+v", l, block, got, want)
		}
	})
}

// holdAll expects of all functions what the second reading of the chapter says, for some Serials and blocks.
func holdAll(t *testing.T, l []api.Event, serials, blocks []int) {
	t.Helper()
	for _, n := range []int{0, 1, api.MaxBlocks + 1} {
		holdCheck(t, n, l, expectCheck(n, l))
	}
	holdOperations(t, l, expectOperations(l), expectPending(l))
	for _, a := range serials {
		for _, b := range serials {
			holdBefore(t, l, a, b, expectBefore(l, a, b))
		}
	}
	for _, b := range blocks {
		holdRestrict(t, l, b, expectRestrict(l, b))
	}
}
