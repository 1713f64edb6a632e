package durable_test

import (
	"slices"
	"testing"

	"zoneappend/api"
	"zoneappend/durable"
)

// growth makes all right histories of some operations, which are invoked in one order and answered in any.
type growth struct {
	commands func(i int) []api.Command        // that the operation i can have
	answers  func(x api.Command) []api.Result // that a command can have
	visit    func(l []api.Event)
}

// grow makes all histories that begin with some events and have up to n operations.
func (g growth) grow(l []api.Event, n, invoked int, open []int) {
	g.visit(l)
	if invoked < n {
		for _, x := range g.commands(invoked) {
			g.grow(append(slices.Clip(l), call(invoked, x)), n, invoked+1, append(slices.Clip(open), len(l)))
		}
	}
	for k, i := range open {
		for _, r := range g.answers(l[i].Command) {
			rest := slices.Concat(open[:k], open[k+1:])
			g.grow(append(slices.Clip(l), back(l[i].Serial, l[i].Command, r)), n, invoked, rest)
		}
	}
}

// holdValues expects of Allowed what layer 19 says that a block can be at the point or later.
func holdValues(t *testing.T, blocks []string, l []api.Event) {
	t.Helper()
	for b := range blocks {
		if got, want := durable.Allowed(blocks, l, b), valuesAt(blocks, l, b); !slices.Equal(got, want) {
			t.Fatalf("Allowed for %d of %+v on %q\n= %q\nwant %q", b, l, blocks, got, want)
		}
	}
}

// TestAll has all histories of up to three operations on two blocks, answered with OK and with an error.
func TestAll(t *testing.T) {
	number := 0
	growth{
		commands: func(i int) []api.Command {
			return []api.Command{write(0, text(i+1)), trim(0), flush(), write(1, text(i+1))}
		},
		answers: func(api.Command) []api.Result { return []api.Result{{}, {Err: errors[number%len(errors)]}} },
		visit: func(l []api.Event) {
			quickly(t, two(), l)
			holdValues(t, two(), l)
			number++
		},
	}.grow(nil, 3, 0, nil)
	// A pending operation is one of 4, and an answered one is one of 8. Of k operations, j answered ones have so many orders.
	if number != 1+(4+8)+(16+3*32+3*64)+(64+6*128+15*256+15*512) {
		t.Errorf("%d", number)
	}
}

// TestAllOfMore has all histories of up to five operations with fewer commands and answers: of one value, and of another one for each Write.
func TestAllOfMore(t *testing.T) {
	for _, c := range []struct {
		n        int
		commands func(i int) []api.Command
	}{
		{4, func(i int) []api.Command { return []api.Command{write(0, text(4-i)), trim(0), flush()} }},
		{5, func(i int) []api.Command { return []api.Command{write(0, text(i+1)), flush()} }},
		{4, func(i int) []api.Command {
			return []api.Command{write(0, text(1)), read(0), flush(), write(0, text(0))}
		}},
	} {
		growth{
			commands: c.commands,
			answers: func(x api.Command) []api.Result {
				if x.Kind == api.Read {
					return []api.Result{{Data: text(1)}}
				}
				return []api.Result{{}}
			},
			visit: func(l []api.Event) {
				want := expectAllowed(two(), l, 0)
				if got := durable.Allowed(two(), l, 0); !slices.Equal(got, want) {
					t.Fatalf("Allowed of %+v\n= %q\nwant %q", l, got, want)
				}
			},
		}.grow(nil, c.n, 0, nil)
	}
}

// TestResultsDependOnArgumentsAlone has the same calls again behind many others, and many times.
func TestResultsDependOnArgumentsAlone(t *testing.T) {
	l := frame()
	want := durable.Allowed(two(), l, 0)
	for i := range 200 {
		durable.Allowed(texts(1, 2, 3), l[:i%len(l)], i%4)
		durable.Check(texts(1, 2), l[:i%len(l)], texts(1, 2))
		if got := durable.Allowed(two(), l, 0); !slices.Equal(got, want) {
			t.Fatalf("%q, then %q", want, got)
		}
		if e := durable.Check(two(), l, []string{want[i%len(want)], text(50)}); e != api.OK {
			t.Fatal(e)
		}
	}
}

// TestResultsAreNew writes into what was returned, as nobody should: what was given does not change, and neither does what is returned next.
func TestResultsAreNew(t *testing.T) {
	for _, l := range [][]api.Event{nil, whole(0, a), join(whole(0, a), whole(9, f)), frame()} {
		given(t, two(), l, func(blocks []string, l []api.Event) {
			want := expectAllowed(blocks, l, 0)
			for range 3 {
				got := durable.Allowed(blocks, l, 0)
				if !slices.Equal(got, want) {
					t.Fatalf("%q, want %q", got, want)
				}
				for i := range got {
					got[i] = text(77)
				}
				_ = append(got, text(77))
			}
		})
	}
}

// TestManyFromOne asks for the beginnings of one history: no result disturbs another one.
func TestManyFromOne(t *testing.T) {
	l := frame()
	var now, then [][]string
	for n := range len(l) + 1 {
		for b := range two() {
			values := durable.Allowed(two(), l[:n], b)
			now, then = append(now, values), append(then, slices.Clone(values))
		}
	}
	for i := range now {
		if !slices.Equal(now[i], then[i]) {
			t.Fatalf("%q became %q", then[i], now[i])
		}
	}
}
