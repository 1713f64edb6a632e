package durable_test

import (
	"fmt"
	"math"
	"slices"
	"strings"
	"testing"

	"zoneappend/api"
	"zoneappend/durable"
)

// zero is a block that was not written.
const zero = "\x00\x00\x00\x00\x00\x00\x00\x00\x00\x00\x00\x00\x00\x00\x00\x00"

// strange are numbers that no kind has. Some of them are a kind in their lowest bits.
var strange = []int{
	0, 5, -1, -2, -3, -4, 6, 7, 1<<8 + 2, 3 - 1<<8, 1<<16 + 4, 1 << 32, 1<<32 + 2, 1<<32 + 3, 4 - 1<<32, 1<<62 + 2,
	math.MinInt, math.MinInt + 2, math.MinInt + 3, math.MinInt + 4, math.MaxInt,
}

// errors are the errors that a command may be answered with.
var errors = []api.Errno{api.ErrFull, api.ErrRange, api.ErrSize, api.ErrForm, api.ErrClosed}

// text is a block of 16 bytes, another one for each number. Greater numbers have greater texts, and all are greater than zero.
func text(n int) string { return fmt.Sprintf("<%014d>", n) }

// texts are the texts of some numbers.
func texts(numbers ...int) []string {
	var all []string
	for _, n := range numbers {
		all = append(all, text(n))
	}
	return all
}

// bytes is data with a number of bytes.
func bytes(n int) string { return strings.Repeat("d", n) }

// read, write, trim and flush are commands.
func read(block int) api.Command { return api.Command{Kind: api.Read, Block: block} }
func write(block int, data string) api.Command {
	return api.Command{Kind: api.Write, Block: block, Data: data}
}
func trim(block int) api.Command { return api.Command{Kind: api.Trim, Block: block} }
func flush() api.Command         { return api.Command{Kind: api.Flush} }

// call is an invocation, back is a return with some result, done is one with OK, and failed is one with an error.
func call(serial int, x api.Command) api.Event {
	return api.Event{Queue: queueOf(serial), Serial: serial, Command: x}
}
func back(serial int, x api.Command, r api.Result) api.Event {
	return api.Event{Return: true, Queue: queueOf(serial), Serial: serial, Command: x, Result: r}
}
func done(serial int, x api.Command) api.Event {
	if x.Kind == api.Read {
		return back(serial, x, api.Result{Data: text(99)})
	}
	return back(serial, x, api.Result{})
}
func failed(serial int, x api.Command, e api.Errno) api.Event {
	return back(serial, x, api.Result{Err: e})
}

// queueOf is a queue for each Serial.
func queueOf(serial int) int { return int(uint(serial) % 4) }

// whole is an operation that is answered with OK at once, and vain is one that is answered with an error at once.
func whole(serial int, x api.Command) []api.Event {
	return []api.Event{call(serial, x), done(serial, x)}
}
func vain(serial int, x api.Command, e api.Errno) []api.Event {
	return []api.Event{call(serial, x), failed(serial, x, e)}
}

// join are histories one behind the other.
func join(parts ...[]api.Event) []api.Event { return slices.Concat(parts...) }

// onto are the same events with another Block, except those of a Flush.
func onto(l []api.Event, block int) []api.Event {
	l = slices.Clone(l)
	for i := range l {
		if l[i].Command.Kind != api.Flush {
			l[i].Command.Block = block
		}
	}
	return l
}

// within gives use a list in some places in memory: with room behind its last element, where something of others lies, and without. It
// expects that all that is in the list, before it and behind it stays as it was.
func within[E comparable](t *testing.T, l []E, others E, use func(l []E)) {
	t.Helper()
	n := len(l)
	whole := slices.Concat([]E{others}, l, []E{others, others})
	before := slices.Clone(whole)
	for _, given := range [][]E{whole[1 : 1+n], whole[1 : 1+n : 1+n]} {
		use(given)
		if !slices.Equal(whole, before) {
			t.Fatalf("%+v\nbecame %+v", before, whole)
		}
	}
	if n == 0 {
		use(nil)
		use([]E{})
	}
}

// given gives use blocks and events in some places in memory, and expects that they stay as they were.
func given(t *testing.T, blocks []string, l []api.Event, use func(blocks []string, l []api.Event)) {
	t.Helper()
	within(t, blocks, text(77), func(blocks []string) {
		t.Helper()
		within(t, l, call(77, write(0, text(77))), func(l []api.Event) {
			t.Helper()
			use(blocks, l)
		})
	})
}

// holdAllowed expects what Allowed returns.
func holdAllowed(t *testing.T, blocks []string, l []api.Event, block int, want []string) {
	t.Helper()
	given(t, blocks, l, func(blocks []string, l []api.Event) {
		t.Helper()
		if got := durable.Allowed(blocks, l, block); !slices.Equal(got, want) {
			t.Fatalf("Allowed for %d of %+v on %q\n= %q\nwant %q", block, l, blocks, got, want)
		}
	})
}

// holdCheck expects what Check returns.
func holdCheck(t *testing.T, blocks []string, l []api.Event, found []string, want api.Errno) {
	t.Helper()
	given(t, blocks, l, func(blocks []string, l []api.Event) {
		t.Helper()
		within(t, found, text(77), func(found []string) {
			t.Helper()
			if e := durable.Check(blocks, l, found); e != want {
				t.Fatalf("Check of %q for %+v on %q: %d, want %d", found, l, blocks, e, want)
			}
		})
	})
}

// holdBlock expects what a block may be, on a device of some blocks: Allowed returns it, and Check takes each of these values, and nothing
// else of the values that are near.
func holdBlock(t *testing.T, blocks []string, l []api.Event, block int, want []string) {
	t.Helper()
	holdAllowed(t, blocks, l, block, want)
	found := firsts(blocks, l)
	for _, value := range near(blocks, l, want) {
		found[block] = value
		e := api.ErrCorrupt
		if slices.Contains(want, value) {
			e = api.OK
		}
		holdCheck(t, blocks, l, found, e)
	}
}

// firsts are values that the blocks may be: of each one the first.
func firsts(blocks []string, l []api.Event) []string {
	var found []string
	for b := range blocks {
		found = append(found, expectAllowed(blocks, l, b)[0])
	}
	return found
}

// near are values that a block may be, that are written, that blocks were, that are near to these, and others.
func near(blocks []string, l []api.Event, want []string) []string {
	values := slices.Concat(blocks, want, []string{zero, text(99), text(98), "", bytes(15), bytes(16), bytes(17)})
	for _, e := range l {
		values = append(values, e.Command.Data)
	}
	if len(want) > 0 {
		v := want[0]
		values = append(values, v[:len(v)-1], v+"\x00", v+v, v[1:], "\x00"+v)
	}
	slices.Sort(values)
	return slices.Compact(values)
}

// quickly expects of Allowed and Check what the second reading of the chapter says.
func quickly(t *testing.T, blocks []string, l []api.Event) {
	t.Helper()
	found := slices.Clone(blocks)
	for b := -1; b <= len(blocks); b++ {
		want := expectAllowed(blocks, l, b)
		if got := durable.Allowed(blocks, l, b); !slices.Equal(got, want) {
			t.Fatalf("Allowed for %d of %+v on %q\n= %q\nwant %q", b, l, blocks, got, want)
		}
		if len(want) > 0 {
			found[b] = want[len(want)-1]
		}
	}
	for _, found := range [][]string{found, blocks, slices.Repeat([]string{zero}, len(blocks)), slices.Repeat(texts(1), len(blocks))} {
		if got, want := durable.Check(blocks, l, found), expectCheck(blocks, l, found); got != want {
			t.Fatalf("Check of %q for %+v on %q: %d, want %d", found, l, blocks, got, want)
		}
	}
}
