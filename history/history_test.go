package history_test

import (
	"math"
	"slices"
	"testing"

	"zoneappend/api"
	"zoneappend/history"
)

// TestExample has the chapter's example: two invocations and then their returns, in both orders.
func TestExample(t *testing.T) {
	x, y := write(0, text(1)), read(0)
	for _, l := range [][]api.Event{
		{call(0, 1, x), call(1, 2, y), done(0, 1, x), done(1, 2, y)},
		{call(0, 1, x), call(1, 2, y), done(1, 2, y), done(0, 1, x)},
	} {
		holdCheck(t, 1, l, api.OK)
		holdBefore(t, l, 1, 2, false)
		holdBefore(t, l, 2, 1, false)
		holdOperations(t, l, []api.Event{done(0, 1, x), done(1, 2, y)}, nil)
	}
}

// TestReadme has what README.md does with a history.
func TestReadme(t *testing.T) {
	x := api.Command{Kind: api.Trim, Block: 5}
	flush := api.Command{Kind: api.Flush}
	l := []api.Event{
		{Queue: 0, Serial: 0, Command: x},
		{Queue: 1, Serial: 1, Command: flush},
		{Return: true, Queue: 0, Serial: 0, Command: x},
		{Queue: 0, Serial: 2, Command: x},
		{Return: true, Queue: 0, Serial: 2, Command: x, Result: api.Result{Err: api.ErrFull}},
	}
	if e := history.Check(6, l); e != api.OK {
		t.Error(e)
	}
	if e := history.Check(6, l[1:]); e != api.ErrOrder {
		t.Error(e)
	}
	if got := history.Operations(l); !slices.Equal(got, []api.Event{l[2], l[1], l[4]}) {
		t.Errorf("%+v", got)
	}
	if got := history.Pending(l); !slices.Equal(got, []int{1}) {
		t.Error(got)
	}
	if !history.Before(l, 0, 2) || history.Before(l, 0, 1) || history.Before(l, 1, 2) {
		t.Error("Before")
	}
	if got := history.Restrict(l, 5); !slices.Equal(got, []api.Event{l[0], l[2], l[3], l[4]}) {
		t.Errorf("%+v", got)
	}
}

// shapes are right histories with a number of events: only calls, each call with its return, and first all calls and then the returns.
func shapes(n int) [][]api.Event {
	all := make([][]api.Event, 3)
	for i := range n {
		all[0] = append(all[0], call(i%4, i, read(i)))
		if i%2 == 0 {
			all[1] = append(all[1], call(i%4, n-i, trim(3)))
		} else {
			all[1] = append(all[1], done((i-1)%4, n-i+1, trim(3)))
		}
		if half := (n + 1) / 2; i < half {
			all[2] = append(all[2], call(i%3, i, write(i, text(i))))
		} else {
			k := n - 1 - i
			all[2] = append(all[2], done(k%3, k, write(k, text(k))))
		}
	}
	return all
}

// TestCheckBlocks has each number of blocks and ones that are not possible, with histories to which no, one or two other errors apply.
func TestCheckBlocks(t *testing.T) {
	wrong := []api.Event{done(0, 0, trim(0))}
	spoiled := shapes(api.MaxEvents + 1)[1]
	spoiled[0].Queue = -1
	histories := map[api.Errno][][]api.Event{
		api.OK:       append(right(), shapes(api.MaxEvents)...),
		api.ErrLimit: append(shapes(api.MaxEvents+1), spoiled, slices.Repeat(wrong, api.MaxEvents+1)),
		api.ErrOrder: {wrong, slices.Repeat(wrong, api.MaxEvents), spoiled[:api.MaxEvents]},
	}
	for want, all := range histories {
		for _, l := range all {
			for n := 1; n <= api.MaxBlocks; n++ {
				if e := history.Check(n, l); e != want {
					t.Fatalf("Check for %d blocks: %d, want %d", n, e, want)
				}
			}
			for _, n := range []int{1, 2, 127, api.MaxBlocks} {
				holdCheck(t, n, l, want)
			}
			for _, n := range slices.Concat([]int{0, -1, api.MaxBlocks + 1, 130, 255, 256, 257, math.MinInt, math.MaxInt}, low, high) {
				holdCheck(t, n, l, api.ErrRange)
			}
		}
	}
}

// TestCheckLimit has histories of numbers of events about the limit: right ones, ones of which only the last event is wrong, and ones of
// which all events are.
func TestCheckLimit(t *testing.T) {
	for _, n := range []int{0, 1, 2, 3, 10, 255, 256, 257, 398, 399, 400, 401, 402, 500, 512, 800, 1000, 5000} {
		want, wrong := api.OK, api.ErrOrder
		if n > 400 {
			want, wrong = api.ErrLimit, api.ErrLimit
		}
		for _, l := range shapes(n) {
			if len(l) != n {
				t.Fatalf("%d events", len(l))
			}
			holdCheck(t, 128, l, want)
			if n > 0 {
				spoiled := slices.Clone(l)
				spoiled[n-1].Serial = -1
				holdCheck(t, 128, spoiled, wrong)
				holdCheck(t, 1, slices.Repeat([]api.Event{call(4, -1, read(0))}, n), wrong)
			}
		}
	}
}

// TestCheckRight has right histories.
func TestCheckRight(t *testing.T) {
	for _, l := range right() {
		for _, by := range []int{0, 1, 1 << 32, math.MaxInt - 100} {
			holdCheck(t, 1, moved(l, by), api.OK)
			holdCheck(t, api.MaxBlocks, moved(l, by), api.OK)
		}
	}
}

// TestCheckAnyCommand has right histories with commands that no layer may answer with OK: a history may have any commands.
func TestCheckAnyCommand(t *testing.T) {
	for _, kind := range slices.Concat(kinds, strange) {
		for _, block := range slices.Concat([]int{0, 1, 5, 128}, low, high) {
			for _, size := range []int{0, 1, 15, 16, 17, 100} {
				x := api.Command{Kind: kind, Block: block, Data: bytes(size)}
				l := []api.Event{call(0, 3, x), call(3, 2, x), call(1, 1, x), failed(3, 2, x, api.ErrForm), done(0, 3, x)}
				if e := history.Check(1, l); e != api.OK {
					t.Fatalf("%+v: %d", l, e)
				}
			}
		}
	}
}

// TestOperations has some operations written out, of right histories and of others.
func TestOperations(t *testing.T) {
	x, y, z := write(0, text(1)), read(1), flush()
	for _, c := range []struct{ l, want []api.Event }{
		{nil, nil},
		{[]api.Event{call(0, 0, x)}, []api.Event{call(0, 0, x)}},
		{[]api.Event{done(0, 0, x)}, nil},
		{[]api.Event{call(0, 0, x), done(0, 0, x)}, []api.Event{done(0, 0, x)}},
		{[]api.Event{call(0, 0, x), call(0, 1, y)}, []api.Event{call(0, 0, x), call(0, 1, y)}},
		{[]api.Event{call(0, 9, x), call(1, 2, y), done(1, 2, y), call(2, 5, z)}, []api.Event{call(0, 9, x), done(1, 2, y), call(2, 5, z)}},
		{[]api.Event{call(0, 9, x), call(1, 2, y), done(1, 2, y), done(0, 9, x)}, []api.Event{done(0, 9, x), done(1, 2, y)}},
		{[]api.Event{call(0, 9, x), call(1, 2, y), failed(0, 9, x, api.ErrFull)}, []api.Event{failed(0, 9, x, api.ErrFull), call(1, 2, y)}},
		// A return ahead of its invocation.
		{[]api.Event{done(0, 3, y), call(0, 3, y)}, []api.Event{done(0, 3, y)}},
		{[]api.Event{failed(0, 3, y, 7), call(0, 3, y), done(0, 3, y)}, []api.Event{failed(0, 3, y, 7)}},
		// Two invocations, and two returns, of a Serial.
		{[]api.Event{call(0, 3, x), call(0, 3, x)}, []api.Event{call(0, 3, x)}},
		{[]api.Event{call(0, 3, x), call(1, 3, y)}, []api.Event{call(0, 3, x)}},
		{[]api.Event{call(0, 3, x), call(1, 3, y), done(1, 3, y)}, []api.Event{back(0, 3, x, api.Result{Data: text(3)})}},
		{[]api.Event{call(0, 3, y), done(0, 3, y), failed(0, 3, y, 7)}, []api.Event{done(0, 3, y)}},
		{[]api.Event{call(0, 3, y), failed(0, 3, y, 7), done(0, 3, y)}, []api.Event{failed(0, 3, y, 7)}},
		{[]api.Event{call(0, 3, x), done(0, 3, x), call(0, 3, x)}, []api.Event{done(0, 3, x)}},
		{[]api.Event{call(0, 3, x), done(0, 3, x), call(0, 3, x), failed(0, 3, x, 7)}, []api.Event{done(0, 3, x)}},
		{[]api.Event{call(0, 3, x), call(0, 4, y), call(0, 3, z), done(0, 3, z)}, []api.Event{done(0, 3, x), call(0, 4, y)}},
		// Another queue, another command, another Serial.
		{[]api.Event{call(0, 3, x), failed(2, 3, z, 5)}, []api.Event{failed(0, 3, x, 5)}},
		{[]api.Event{call(0, 3, x), done(0, 4, x)}, []api.Event{call(0, 3, x)}},
		{[]api.Event{call(9, -3, x), done(0, 3, x)}, []api.Event{call(9, -3, x)}},
		{[]api.Event{call(-9, math.MinInt, x), failed(1, math.MinInt, y, -1)}, []api.Event{failed(-9, math.MinInt, x, -1)}},
	} {
		var pending []int
		for _, o := range c.want {
			if !o.Return {
				pending = append(pending, o.Serial)
			}
		}
		holdOperations(t, c.l, c.want, pending)
	}
}

// TestOperationsResult has invocations with a Result: they keep it if they have no return, and otherwise have that of the return.
func TestOperationsResult(t *testing.T) {
	odd := call(0, 3, read(0))
	odd.Result = api.Result{Err: api.ErrBusy, Data: "odd"}
	holdOperations(t, []api.Event{odd}, []api.Event{odd}, []int{3})
	for _, r := range []api.Result{{}, {Err: 7}, {Data: text(1)}, {Err: -1, Data: "x"}} {
		want := []api.Event{back(0, 3, read(0), r)}
		holdOperations(t, []api.Event{odd, back(0, 3, read(0), r)}, want, nil)
		holdOperations(t, []api.Event{back(0, 3, read(0), r), odd}, want, nil)
	}
}

// TestPending has histories in which some, all and none of the operations are pending.
func TestPending(t *testing.T) {
	x := trim(0)
	for _, c := range []struct {
		l    []api.Event
		want []int
	}{
		{nil, nil},
		{[]api.Event{call(0, 5, x), call(0, 1, x), call(0, 3, x)}, []int{5, 1, 3}},
		{[]api.Event{call(0, 5, x), call(0, 1, x), call(0, 3, x), done(0, 1, x)}, []int{5, 3}},
		{[]api.Event{call(0, 5, x), call(0, 1, x), call(0, 3, x), done(0, 5, x)}, []int{1, 3}},
		{[]api.Event{call(0, 5, x), call(0, 1, x), call(0, 3, x), done(0, 3, x), done(0, 5, x), done(0, 1, x)}, nil},
		{[]api.Event{done(0, 5, x), call(0, 5, x), call(0, 1, x)}, []int{1}},
		{[]api.Event{call(0, 5, x), done(0, 5, x), call(0, 5, x)}, nil},
		{[]api.Event{call(0, 5, x), call(0, 5, x), call(0, 2, x), call(0, 5, x)}, []int{5, 2}},
		{[]api.Event{done(0, 5, x), done(0, 6, x)}, nil},
		{[]api.Event{call(0, -5, x), call(0, math.MaxInt, x), call(0, math.MinInt, x), done(0, 5, x)}, []int{-5, math.MaxInt, math.MinInt}},
	} {
		within(t, c.l, func(l []api.Event) {
			if got := history.Pending(l); !slices.Equal(got, c.want) {
				t.Errorf("Pending of %+v: %v, want %v", l, got, c.want)
			}
		})
	}
}

// TestBefore has pairs of Serials, also the same ones and ones that do not occur.
func TestBefore(t *testing.T) {
	x := trim(0)
	type pair struct{ a, b int }
	for _, c := range []struct {
		l    []api.Event
		want []pair // all that are before each other
	}{
		{nil, nil},
		{[]api.Event{call(0, 1, x), call(0, 2, x)}, nil},
		{[]api.Event{done(0, 1, x), done(0, 2, x)}, nil},
		{[]api.Event{call(0, 1, x), done(0, 1, x)}, nil},
		{[]api.Event{call(0, 1, x), done(0, 1, x), call(0, 2, x)}, []pair{{1, 2}}},
		{[]api.Event{call(0, 2, x), done(0, 2, x), call(0, 1, x)}, []pair{{2, 1}}},
		{[]api.Event{call(0, 0, x), done(0, 0, x), call(1, 5, x), call(0, 2, x), done(0, 2, x)}, []pair{{0, 5}, {0, 2}}},
		{[]api.Event{call(0, 0, x), done(0, 0, x), call(1, 5, x), done(1, 5, x), call(0, 2, x)}, []pair{{0, 5}, {0, 2}, {5, 2}}},
		{[]api.Event{call(0, 0, x), call(0, 1, x), done(0, 0, x), call(0, 2, x), done(0, 1, x), call(0, 5, x)}, []pair{{0, 2}, {0, 5}, {1, 5}}},
		// A return ahead of its invocation, or without one.
		{[]api.Event{done(0, 1, x), call(0, 1, x)}, []pair{{1, 1}}},
		{[]api.Event{done(0, 1, x), call(0, 2, x)}, []pair{{1, 2}}},
		{[]api.Event{call(0, 2, x), done(0, 1, x)}, nil},
		// Only the first invocation and the first return count.
		{[]api.Event{call(0, 2, x), done(0, 1, x), call(0, 2, x)}, nil},
		{[]api.Event{call(0, 1, x), done(0, 1, x), call(0, 1, x)}, nil},
		{[]api.Event{done(0, 1, x), call(0, 2, x), done(0, 1, x)}, []pair{{1, 2}}},
		{[]api.Event{done(0, 1, x), call(0, 2, x), call(0, 2, x)}, []pair{{1, 2}}},
		{[]api.Event{done(0, 1, x), call(0, 1, x), done(0, 1, x), call(0, 1, x)}, []pair{{1, 1}}},
		{[]api.Event{call(0, 5, x), done(2, 1, flush()), call(7, 0, read(3))}, []pair{{1, 0}}},
	} {
		for _, a := range []int{0, 1, 2, 5, 3, -1, math.MinInt, math.MaxInt} {
			for _, b := range []int{0, 1, 2, 5, 3, -1, math.MinInt, math.MaxInt} {
				holdBefore(t, c.l, a, b, slices.Contains(c.want, pair{a, b}))
			}
		}
	}
	for _, s := range slices.Concat(low, high) {
		holdBefore(t, []api.Event{done(0, s, x), call(0, s, x)}, s, s, true)
		holdBefore(t, []api.Event{call(0, s, x), done(0, s, x)}, s, s, false)
	}
}

// TestRestrict has events of all kinds, for blocks that occur and for others.
func TestRestrict(t *testing.T) {
	var l []api.Event
	for block := -2; block <= 3; block++ {
		for _, kind := range slices.Concat(kinds, strange) {
			x := api.Command{Kind: kind, Block: block, Data: "any"}
			l = append(l, call(0, len(l), x), back(9, -1, x, api.Result{Err: -1, Data: "any"}))
		}
	}
	size := len(l) / 6 // of each block: its Reads, Writes and Trims come first
	for block := -2; block <= 3; block++ {
		at := (block + 2) * size
		holdRestrict(t, l, block, l[at:at+6])
	}
	for _, block := range slices.Concat([]int{4, 5, -3, 128, 129}, low[2:], high) {
		holdRestrict(t, l, block, nil)
	}
	holdRestrict(t, nil, 0, nil)
	holdRestrict(t, []api.Event{call(0, 0, flush()), done(0, 0, flush()), {}, {Return: true}}, 0, nil)
	for _, block := range slices.Concat(low, high) {
		far := []api.Event{call(1, 1, trim(block)), call(1, 2, read(block+1)), call(1, 3, read(block))}
		holdRestrict(t, far, block, []api.Event{far[0], far[2]})
	}
}

// TestRestrictOrder has events of some blocks among each other, and events that occur more than once: they stay in their order.
func TestRestrictOrder(t *testing.T) {
	a, b := call(0, 7, trim(1)), call(1, 3, read(2))
	c, d := done(0, 7, trim(1)), done(1, 3, read(2))
	e, f := call(2, 1, flush()), call(2, 2, write(1, text(1)))
	l := []api.Event{a, b, e, d, c, f, a, b, e, a}
	holdRestrict(t, l, 1, []api.Event{a, c, f, a, a})
	holdRestrict(t, l, 2, []api.Event{b, d, b})
	holdRestrict(t, l, 0, nil)
}
