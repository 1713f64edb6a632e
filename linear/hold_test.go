package linear_test

import (
	"fmt"
	"math"
	"slices"
	"strings"
	"testing"

	"zoneappend/api"
	"zoneappend/linear"
)

// zero is a block that was not written.
const zero = "\x00\x00\x00\x00\x00\x00\x00\x00\x00\x00\x00\x00\x00\x00\x00\x00"

// strange are numbers that no kind and no block of one has. Some of them are a kind, or 0, in their lowest bits.
var strange = []int{
	5, -1, -2, -3, 6, 7, 1 << 8, 1<<8 + 1, 2 - 1<<8, 1<<16 + 3, 1 << 32, 1<<32 + 1, 1<<32 + 2, 3 - 1<<32, 1 << 62, 1<<62 + 2,
	math.MinInt, math.MinInt + 1, math.MinInt + 2, math.MinInt + 3, math.MaxInt - 1, math.MaxInt,
}

// text is a block of 16 bytes, another one for each number. Greater numbers have greater texts, and all are greater than zero.
func text(n int) string { return fmt.Sprintf("<%014d>", n) }

// bytes is data with a number of bytes.
func bytes(n int) string { return strings.Repeat("d", n) }

// read, write, trim and flush are commands.
func read(block int) api.Command { return api.Command{Kind: api.Read, Block: block} }
func write(block int, data string) api.Command {
	return api.Command{Kind: api.Write, Block: block, Data: data}
}
func trim(block int) api.Command { return api.Command{Kind: api.Trim, Block: block} }
func flush() api.Command         { return api.Command{Kind: api.Flush} }

// call is an invocation, back is a return with some result, done is one with OK, and failed is one with an error.
func call(serial int, x api.Command) api.Event {
	return api.Event{Queue: queueOf(serial), Serial: serial, Command: x}
}
func back(serial int, x api.Command, r api.Result) api.Event {
	return api.Event{Return: true, Queue: queueOf(serial), Serial: serial, Command: x, Result: r}
}
func done(serial int, x api.Command, data string) api.Event {
	return back(serial, x, api.Result{Data: data})
}
func failed(serial int, x api.Command, e api.Errno) api.Event {
	return back(serial, x, api.Result{Err: e})
}

// queueOf is a queue for each Serial.
func queueOf(serial int) int { return int(uint(serial) % 4) }

// whole is an operation that is answered at once.
func whole(serial int, x api.Command, data string) []api.Event {
	return []api.Event{call(serial, x), done(serial, x, data)}
}

// join are histories one behind the other.
func join(parts ...[]api.Event) []api.Event { return slices.Concat(parts...) }

// serials are the Serials of the operations of a history, in order.
func serials(l []api.Event) []int {
	var all []int
	for _, e := range l {
		if !e.Return {
			all = append(all, e.Serial)
		}
	}
	return all
}

// moved are the same events with other Serials.
func moved(l []api.Event, by int) []api.Event {
	l = slices.Clone(l)
	for i := range l {
		l[i].Serial += by
	}
	return l
}

// onto are the same events with another Block.
func onto(l []api.Event, block int) []api.Event {
	l = slices.Clone(l)
	for i := range l {
		l[i].Command.Block = block
	}
	return l
}

// within gives use a list in some places in memory: with room behind its last element, where something of others lies, and without. It
// expects that all that is in the list, before it and behind it stays as it was.
func within[E comparable](t *testing.T, l []E, others E, use func(l []E)) {
	t.Helper()
	n := len(l)
	whole := slices.Concat([]E{others}, l, []E{others, others})
	before := slices.Clone(whole)
	for _, given := range [][]E{whole[1 : 1+n], whole[1 : 1+n : 1+n]} {
		use(given)
		if !slices.Equal(whole, before) {
			t.Fatalf("%+v\nbecame %+v", before, whole)
		}
	}
	if n == 0 {
		use(nil)
		use([]E{})
	}
}

// given gives use blocks and events in some places in memory, and expects that they stay as they were.
func given(t *testing.T, blocks []string, l []api.Event, use func(blocks []string, l []api.Event)) {
	t.Helper()
	within(t, blocks, text(77), func(blocks []string) {
		t.Helper()
		within(t, l, call(77, trim(1)), func(l []api.Event) {
			t.Helper()
			use(blocks, l)
		})
	})
}

// holdCheck expects what Check returns.
func holdCheck(t *testing.T, blocks []string, l []api.Event, order []int, want api.Errno) {
	t.Helper()
	given(t, blocks, l, func(blocks []string, l []api.Event) {
		t.Helper()
		within(t, order, 77, func(order []int) {
			t.Helper()
			if e := linear.Check(blocks, l, order); e != want {
				t.Fatalf("Check of %v for %+v on %q: %d, want %d", order, l, blocks, e, want)
			}
		})
	})
}

// holdBlock expects what Values returns, and that Block finds a linearization exactly if there is a value.
func holdBlock(t *testing.T, value string, l []api.Event, values ...string) {
	t.Helper()
	within(t, l, call(77, trim(1)), func(l []api.Event) {
		t.Helper()
		if got := linear.Values(value, l); !slices.Equal(got, values) {
			t.Fatalf("Values of %+v on %q\n= %q\nwant %q", l, value, got, values)
		}
		order, ok := linear.Block(value, l)
		holdFound(t, []string{value}, l, order, ok, len(values) > 0)
	})
}

// holdFind expects whether Find finds a linearization.
func holdFind(t *testing.T, blocks []string, l []api.Event, want bool) {
	t.Helper()
	given(t, blocks, l, func(blocks []string, l []api.Event) {
		t.Helper()
		order, ok := linear.Find(blocks, l)
		holdFound(t, blocks, l, order, ok, want)
	})
}

// holdFound expects of an order that was found that it is a linearization, and of one that was not that it is empty.
func holdFound(t *testing.T, blocks []string, l []api.Event, order []int, ok, want bool) {
	t.Helper()
	if ok != want {
		t.Fatalf("found for %+v on %q: %v, %v", l, blocks, order, ok)
	}
	if !ok && len(order) > 0 {
		t.Fatalf("nothing was found for %+v on %q, but %v", l, blocks, order)
	}
	if !ok {
		return
	}
	if e := linear.Check(blocks, l, order); e != api.OK {
		t.Fatalf("found %v for %+v on %q: %d", order, l, blocks, e)
	}
	if e := expectCheck(blocks, l, order); e != api.OK {
		t.Fatalf("found %v for %+v on %q: %d expected", order, l, blocks, e)
	}
}
