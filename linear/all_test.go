package linear_test

import (
	"slices"
	"testing"

	"zoneappend/api"
	"zoneappend/linear"
)

// growth makes all right histories of some operations, which are invoked in one order and answered in any.
type growth struct {
	commands func(i int) []api.Command            // that the operation i can have
	answers  func(x api.Command) []api.Result     // that a command can have
	visit    func(l []api.Event, below bool) bool // gets what it returned for the history without its last event
}

// grow makes all histories that begin with some events and have up to n operations.
func (g growth) grow(l []api.Event, n, invoked int, open []int, below bool) {
	below = g.visit(l, below)
	if invoked < n {
		for _, x := range g.commands(invoked) {
			g.grow(append(slices.Clip(l), call(invoked, x)), n, invoked+1, append(slices.Clip(open), len(l)), below)
		}
	}
	for k, i := range open {
		for _, r := range g.answers(l[i].Command) {
			rest := slices.Concat(open[:k], open[k+1:])
			g.grow(append(slices.Clip(l), back(l[i].Serial, l[i].Command, r)), n, invoked, rest, below)
		}
	}
}

// holdShortly expects of Block, Values and Find what the second reading of the chapter says, for a history of one block, and returns whether
// it has a linearization.
func holdShortly(t *testing.T, value string, l []api.Event) bool {
	t.Helper()
	values := expectValues(value, l)
	if got := linear.Values(value, l); !slices.Equal(got, values) {
		t.Fatalf("Values of %+v on %q\n= %q\nwant %q", l, value, got, values)
	}
	order, ok := linear.Block(value, l)
	holdFound(t, []string{value}, l, order, ok, len(values) > 0)
	order, ok = linear.Find([]string{value}, l)
	holdFound(t, []string{value}, l, order, ok, len(values) > 0)
	return ok
}

// holdOrders expects of Check what the second reading says, for all orders of operations, and that one of them is right exactly if the
// history has a linearization.
func holdOrders(t *testing.T, blocks []string, l []api.Event, found bool) {
	t.Helper()
	any := false
	for _, order := range orders(serials(l)) {
		want := expectCheck(blocks, l, order)
		if got := linear.Check(blocks, l, order); got != want {
			t.Fatalf("Check of %v for %+v on %q: %d, want %d", order, l, blocks, got, want)
		}
		any = any || want == api.OK
	}
	if any != found {
		t.Fatalf("%+v on %q: %v, although %v", l, blocks, found, any)
	}
}

// holdBelow expects that a history whose beginning has no linearization has none.
func holdBelow(t *testing.T, l []api.Event, below, found bool) {
	t.Helper()
	if found && !below {
		t.Fatalf("%+v has a linearization, although its beginning has none", l)
	}
}

// TestAllOfOneBlock has all histories of up to three operations on one block, and of up to four with fewer commands.
func TestAllOfOneBlock(t *testing.T) {
	number, found := 0, 0
	g := growth{
		commands: func(int) []api.Command { return []api.Command{write(0, text(1)), read(0), trim(0)} },
		answers: func(x api.Command) []api.Result {
			switch x.Kind {
			case api.Read:
				return []api.Result{{Data: text(0)}, {Data: text(1)}, {Data: zero}}
			case api.Write:
				return []api.Result{{}, {Err: api.ErrFull}}
			}
			return []api.Result{{}}
		},
	}
	g.visit = func(l []api.Event, below bool) bool {
		ok := holdShortly(t, text(0), l)
		holdOrders(t, []string{text(0)}, l, ok)
		holdBelow(t, l, below, ok)
		number++
		if ok {
			found++
		}
		return ok
	}
	g.grow(nil, 3, 0, nil, true)
	// A pending operation is one of 3, and an answered one is one of 6. Of k operations, j answered ones have so many orders.
	if number != 1+(3+6)+(9+3*18+3*36)+(27+6*54+15*108+15*216) || found < 2000 || found > 3500 {
		t.Errorf("%d of %d", found, number)
	}
	g.commands = func(i int) []api.Command { return []api.Command{write(0, text(1+i/2)), read(0)} }
	g.answers = func(x api.Command) []api.Result {
		if x.Kind == api.Read {
			return []api.Result{{Data: text(0)}, {Data: text(1)}}
		}
		return []api.Result{{}}
	}
	g.visit = func(l []api.Event, below bool) bool {
		ok := holdShortly(t, text(0), l)
		holdBelow(t, l, below, ok)
		return ok
	}
	g.grow(nil, 4, 0, nil, true)
}

// TestAllOfTwoBlocks has all histories of up to three operations on two blocks, of a Flush, and of one that is not right: one has a
// linearization exactly if what it is on each block has one.
func TestAllOfTwoBlocks(t *testing.T) {
	blocks := []string{zero, text(0)}
	g := growth{
		commands: func(i int) []api.Command {
			if i == 1 {
				return []api.Command{read(0), read(1), flush()}
			}
			return []api.Command{write(0, text(1)), write(1, zero), read(1), trim(2)}
		},
		answers: func(x api.Command) []api.Result {
			switch {
			case x.Kind == api.Read:
				return []api.Result{{Data: zero}, {Data: text(x.Block ^ 1)}}
			case x.Kind == api.Trim:
				return []api.Result{{Err: api.ErrRange}, {}}
			}
			return []api.Result{{}}
		},
	}
	g.visit = func(l []api.Event, below bool) bool {
		order, ok := linear.Find(blocks, l)
		holdFound(t, blocks, l, order, ok, expectFind(blocks, l))
		holdOrders(t, blocks, l, ok)
		holdBelow(t, l, below, ok)
		holdParts(t, blocks, l, ok)
		return ok
	}
	g.grow(nil, 3, 0, nil, true)
}

// holdParts expects that a history is linearizable exactly if its restrictions to all blocks are, where nothing was answered with OK that
// is about no block and not right.
func holdParts(t *testing.T, blocks []string, l []api.Event, found bool) {
	t.Helper()
	all := true
	for b := range blocks {
		part := slices.DeleteFunc(slices.Clone(l), func(e api.Event) bool { return e.Command.Block != b || e.Command.Kind == api.Flush })
		_, alone := linear.Block(blocks[b], onto(part, 0))
		_, among := linear.Find(blocks, part)
		if alone != among {
			t.Fatalf("Block %v, and Find %v of %+v", alone, among, part)
		}
		all = all && alone
	}
	strange := slices.ContainsFunc(l, func(e api.Event) bool { return e.Return && e.Result.Err == api.OK && e.Command.Block >= len(blocks) })
	if found != (all && !strange) {
		t.Fatalf("%+v: %v, but its parts %v", l, found, all)
	}
}

// TestResultsDependOnArgumentsAlone has the same calls again behind many others, and many times: the same order is found.
func TestResultsDependOnArgumentsAlone(t *testing.T) {
	l := append(atOnce(6, 3, false), join(whole(10, read(0), text(2)), whole(11, read(0), text(1)))...)
	order, _ := linear.Block(zero, l)
	all, _ := linear.Find([]string{zero}, l)
	values := linear.Values(zero, l)
	for i := range 200 {
		linear.Check(two(), l, order)
		linear.Block(text(1), l[:i%len(l)])
		linear.Find(two(), l[:i%len(l)])
		linear.Values(text(1), l[:i%len(l)])
		again, ok := linear.Block(zero, l)
		once, found := linear.Find([]string{zero}, l)
		if !ok || !found || !slices.Equal(again, order) || !slices.Equal(once, all) || !slices.Equal(linear.Values(zero, l), values) {
			t.Fatalf("%v and %v, then %v and %v", order, all, again, once)
		}
	}
}
