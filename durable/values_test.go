package durable_test

import (
	"fmt"
	"math"
	"slices"
	"strings"
	"testing"

	"zoneappend/api"
)

// with is a block of letters in which one byte is another one.
func with(at int, value byte) string {
	return strings.Repeat("d", at) + string([]byte{value}) + strings.Repeat("d", 15-at)
}

// TestValuesAscend has values whose order is decided by each of their bytes, also by ones over 127.
func TestValuesAscend(t *testing.T) {
	for at := range 16 {
		values := []string{with(at, 0), with(at, 1), with(at, 'a'), with(at, 'd'), with(at, 127), with(at, 128), with(at, 200), with(at, 255)}
		for turn := range values {
			order := slices.Concat(values[turn:], values[:turn])
			for range 2 {
				slices.Reverse(order)
				var l []api.Event
				for i, v := range order[1:] {
					l = append(l, whole(i, write(0, v))...)
				}
				holdAllowed(t, []string{order[0]}, l, 0, values)
				holdAllowed(t, []string{order[0]}, append(l, whole(50, trim(0))...), 0, append([]string{zero}, values...))
				l = append(whole(50, trim(0)), l...)
				holdAllowed(t, []string{order[0]}, append(l, call(51, flush()), done(51, flush())), 0, values[indexOf(values, order[7]):][:1])
			}
		}
	}
}

// indexOf is where a value is.
func indexOf(values []string, v string) int { return slices.Index(values, v) }

// TestValuesOnce has values that occur several times: in the block at the beginning, in Writes, and in Trims.
func TestValuesOnce(t *testing.T) {
	var l []api.Event
	for i := range 12 {
		x := write(0, text(i%3))
		switch i {
		case 3, 7:
			x = trim(0)
		case 5:
			x = write(0, zero)
		}
		l = append(l, call(i, x))
		if i%2 == 0 {
			l = append(l, done(i, x))
		}
	}
	all := append([]string{zero}, texts(0, 1, 2)...)
	for value, want := range map[string][]string{zero: all, text(0): all, text(2): all, text(9): append(slices.Clone(all), text(9))} {
		holdBlock(t, []string{value}, l, 0, want)
	}
	old := text(0)
	for name, c := range map[string]struct {
		l    []api.Event
		want []string
	}{
		"a Write of the old value":       {whole(0, write(0, old)), texts(0)},
		"it is flushed":                  {join(whole(0, write(0, old)), whole(9, f)), texts(0)},
		"it is pending":                  {[]api.Event{call(0, write(0, old))}, texts(0)},
		"the same twice":                 {join(whole(0, a), whole(1, a)), texts(0, 1)},
		"the same twice, flushed":        {join(whole(0, a), whole(1, a), whole(9, f)), texts(1)},
		"the same covered and not":       {join(whole(0, a), whole(1, b), whole(2, a), whole(9, f)), texts(1)},
		"the same covered and pending":   {join(whole(0, a), whole(1, b), whole(9, f), []api.Event{call(2, a)}), texts(1, 2)},
		"the old value is covered":       {join(whole(0, write(0, old)), whole(1, b), whole(9, f)), texts(2)},
		"the old value is written again": {join(whole(0, a), whole(9, f), whole(1, write(0, old))), texts(0, 1)},
		"zeros":                          {whole(0, write(0, zero)), []string{zero, old}},
		"zeros, flushed":                 {join(whole(0, write(0, zero)), whole(9, f)), []string{zero}},
		"zeros and a Trim":               {join(whole(0, write(0, zero)), whole(1, z)), []string{zero, old}},
		"zeros and a Trim at once":       {[]api.Event{call(0, write(0, zero)), call(1, z), done(1, z), done(0, write(0, zero)), call(9, f), done(9, f)}, []string{zero}},
		"zeros cover a Trim":             {join(whole(0, z), whole(1, write(0, zero)), whole(9, f)), []string{zero}},
		"a Trim covers zeros":            {join(whole(0, write(0, zero)), whole(1, z), whole(9, f)), []string{zero}},
		"a Trim covers, zeros are later": {join(whole(0, a), whole(1, z), whole(9, f), whole(2, write(0, zero))), []string{zero}},
	} {
		t.Run(name, func(t *testing.T) {
			holdBlock(t, two(), c.l, 0, c.want)
			holdBlock(t, []string{text(50), text(0)}, onto(c.l, 1), 1, c.want)
		})
	}
}

// TestBlocks has a history of one block, that of each number of a device, and nothing of the others.
func TestBlocks(t *testing.T) {
	for _, n := range []int{1, 2, 3, 128} {
		var blocks []string
		for i := range n {
			blocks = append(blocks, text(100+i))
		}
		for _, b := range []int{0, 1 % n, n / 2, n - 1} {
			l := onto(join(whole(0, a), whole(1, c), whole(9, f), []api.Event{call(2, z)}), b)
			for i := range n {
				want := blocks[i : i+1]
				if i == b {
					want = []string{zero, text(3)}
				}
				holdAllowed(t, blocks, l, i, want)
			}
			for _, i := range append([]int{-1, n, n + 1, -n, 128, 129, b + 1<<32, b - 1<<32, b + 1<<8, b + 1<<62}, math.MinInt, math.MaxInt) {
				if i < 0 || i >= n {
					holdAllowed(t, blocks, l, i, nil)
					holdAllowed(t, blocks, nil, i, nil)
					holdAllowed(t, blocks, onto(l, i), i, nil) // also of a block that commands name
				}
			}
			found := slices.Clone(blocks)
			for _, found[b] = range []string{zero, text(3)} {
				holdCheck(t, blocks, l, found, api.OK)
			}
			for _, found[b] = range []string{blocks[b], text(1), text(99)} {
				holdCheck(t, blocks, l, found, api.ErrCorrupt)
			}
		}
	}
}

// TestBlocksThatAreNotThere has operations on blocks that are not there, answered with OK as they cannot be: they change none that is.
func TestBlocksThatAreNotThere(t *testing.T) {
	for _, n := range []int{2, -1, 128, 1 << 32, -1 << 32, 1<<32 + 1, math.MinInt, math.MaxInt} {
		for _, x := range []api.Command{write(n, text(7)), trim(n)} {
			for _, l := range [][]api.Event{whole(5, x), {call(5, x)}, vain(5, x, api.ErrRange)} {
				holdBlock(t, two(), l, 0, texts(0))
				holdBlock(t, two(), join(whole(0, a), l, whole(9, f)), 0, texts(1))
				holdBlock(t, two(), join(whole(0, a), l, whole(9, f)), 1, texts(50))
				holdBlock(t, two(), join(whole(0, a), whole(9, f), l), 0, texts(1))
			}
		}
	}
}

// frame is a history in which there is something of everything on the block 0.
func frame() []api.Event {
	return join([]api.Event{call(0, a), call(1, b)}, []api.Event{done(0, a)}, whole(8, f), []api.Event{call(2, z), done(1, b)}, whole(9, f),
		[]api.Event{call(3, c)})
}

// TestOthersMakeNoDifference lays something else into a history, in all places: Reads, Flushes that were not answered with OK, failed Writes
// and Trims, commands on another block, and commands of no kind. What the block may be stays.
func TestOthersMakeNoDifference(t *testing.T) {
	l := frame()
	want := append([]string{zero}, texts(1, 2, 3)...) // a is not before b, and is before z, which is pending
	holdBlock(t, two(), l, 0, want)
	for i := range len(l) + 1 {
		for k := i; k <= len(l); k++ {
			lay := func(ends bool, e api.Event, x api.Command) {
				t.Helper()
				with := slices.Insert(slices.Clone(l), i, call(70, x))
				if ends {
					with = slices.Insert(with, k+1, e)
				}
				holdAllowed(t, two(), with, 0, want)
			}
			lay(false, api.Event{}, read(0))
			lay(true, back(70, read(0), api.Result{Data: text(9)}), read(0))
			lay(true, back(70, read(0), api.Result{Data: text(0)}), read(0))
			lay(true, failed(70, read(0), api.ErrClosed), read(0))
			lay(false, api.Event{}, flush())
			for _, e := range errors {
				lay(true, failed(70, flush(), e), flush())
				lay(true, failed(70, write(0, text(9)), e), write(0, text(9)))
				lay(true, failed(70, trim(0), e), trim(0))
			}
			for _, x := range []api.Command{write(1, text(9)), trim(1), write(2, text(9)), trim(-1)} {
				lay(true, done(70, x), x)
				lay(false, api.Event{}, x)
			}
			for _, n := range strange {
				x := api.Command{Kind: n, Data: text(9)}
				lay(true, done(70, x), x)
				lay(false, api.Event{}, x)
			}
		}
	}
}

// TestCommandsThatAreNotRight has Writes and Trims of a block with other Data than a right one has, and Flushes with a Block or with Data: a
// history with them may be right.
func TestCommandsThatAreNotRight(t *testing.T) {
	for _, size := range []int{0, 1, 15, 17, 40} {
		x := write(0, bytes(size))
		holdAllowed(t, two(), []api.Event{call(0, x)}, 0, sorted(text(0), bytes(size)))
		holdAllowed(t, two(), join(whole(0, x), whole(9, f)), 0, []string{bytes(size)})
		holdCheck(t, two(), join(whole(0, x), whole(9, f)), []string{bytes(size), text(50)}, api.OK)
		holdCheck(t, two(), join(whole(0, x), whole(9, f)), texts(0, 50), api.ErrCorrupt)
		holdBlock(t, two(), join(whole(0, x), whole(1, b), whole(9, f)), 0, texts(2))
		holdBlock(t, two(), vain(0, x, api.ErrSize), 0, texts(0))
		y := api.Command{Kind: api.Trim, Data: bytes(size)}
		holdBlock(t, two(), join(whole(0, a), whole(1, y), whole(9, f)), 0, []string{zero})
	}
	for _, x := range []api.Command{{Kind: api.Flush, Block: 1}, {Kind: api.Flush, Block: -1}, {Kind: api.Flush, Data: text(9)}} {
		holdBlock(t, two(), join(whole(0, a), whole(9, x)), 0, texts(1))
		holdBlock(t, two(), join(whole(0, a), vain(9, x, api.ErrRange)), 0, texts(0, 1))
	}
}

// sorted are values, ascending.
func sorted(values ...string) []string {
	slices.Sort(values)
	return values
}

// TestLong has histories of as many events as a right one may have, of one block and of all blocks.
func TestLong(t *testing.T) {
	var l []api.Event
	for i := range 199 {
		l = append(l, whole(i, write(0, text(1+i%150)))...)
	}
	all := texts(0)
	for i := range 150 {
		all = append(all, text(1+i))
	}
	holdAllowed(t, two(), l, 0, all)
	holdAllowed(t, two(), append(slices.Clone(l), call(200, f)), 0, all)
	l = append(l, call(200, f), done(200, f))
	holdAllowed(t, two(), l, 0, texts(1+198%150))
	holdAllowed(t, two(), l, 1, texts(50))
	holdAllowed(t, two(), append(l, call(300, c)), 0, nil)
	l, blocks, found := nil, slices.Repeat([]string{zero}, 128), []string(nil)
	for i := range blocks {
		l = append(l, call(2*i, write(i, text(i))))
		found = append(found, text(i))
	}
	l = append(l, whole(1000, f)...)
	for i := range blocks {
		l = append(l, done(2*i, write(i, text(i))))
	}
	holdCheck(t, blocks, l, found, api.OK)
	holdCheck(t, blocks, l, blocks, api.OK)
	for i := range blocks {
		t.Run(fmt.Sprint(i), func(t *testing.T) {
			holdAllowed(t, blocks, l, i, []string{zero, text(i)})
			wrong := slices.Clone(found)
			wrong[i] = text(i + 1)
			holdCheck(t, blocks, l, wrong, api.ErrCorrupt)
		})
	}
	l = append(l, whole(1001, f)...)
	holdCheck(t, blocks, l, found, api.OK)
	holdCheck(t, blocks, l, blocks, api.ErrCorrupt)
}
