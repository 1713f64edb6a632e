package history_test

import (
	"slices"
	"testing"

	"zoneappend/api"
	"zoneappend/history"
)

// lists are all lists of up to n elements of another one.
func lists[E any](n int, among []E) [][]E {
	all, longest := [][]E{nil}, [][]E{nil}
	for range n {
		var longer [][]E
		for _, l := range longest {
			for _, e := range among {
				longer = append(longer, append(slices.Clip(l), e))
			}
		}
		all, longest = append(all, longer...), longer
	}
	return all
}

// few are events of few Serials, of which many are right behind some others.
func few() []api.Event {
	x, y := read(0), trim(1)
	return []api.Event{
		call(0, 0, x), call(1, 1, y), call(1, 0, y), call(-1, 1, y), done(0, 0, x), done(1, 1, y), done(0, 1, y), failed(1, 1, x, 7),
		failed(1, 0, y, 7), back(0, 0, x, api.Result{}), call(3, 2, flush()), done(3, 2, flush()),
	}
}

// TestAllSmall has all rows of up to four of few events.
func TestAllSmall(t *testing.T) {
	right := 0
	for _, l := range lists(4, few()) {
		if len(l) <= 3 {
			holdAll(t, l, []int{0, 1, 3}, []int{0, 1, 2})
		}
		holdShortly(t, l)
		if history.Check(1, l) == api.OK {
			right++
			holdOrder(t, l)
			holdBeginnings(t, l)
		}
	}
	// Of the operations 0 (which has two possible invocations), 1 and 2, k of which j are answered have (k+j)!/2^j orders.
	if right != 1+4*(1+1)+5*(2+6+6)+2*(6+36) {
		t.Errorf("%d right histories", right)
	}
}

// holdShortly expects of all functions what the second reading of the chapter says, with the list as it is.
func holdShortly(t *testing.T, l []api.Event) {
	t.Helper()
	if got, want := history.Check(2, l), expectCheck(2, l); got != want {
		t.Fatalf("Check of %+v: %d, want %d", l, got, want)
	}
	if got, want := history.Operations(l), expectOperations(l); !slices.Equal(got, want) {
		t.Fatalf("Operations of %+v\n= %+v\nwant %+v", l, got, want)
	}
	if got, want := history.Pending(l), expectPending(l); !slices.Equal(got, want) {
		t.Fatalf("Pending of %+v: %v, want %v", l, got, want)
	}
	for a := range 3 {
		for b := range 3 {
			if got, want := history.Before(l, a, b), expectBefore(l, a, b); got != want {
				t.Fatalf("Before of %d and %d in %+v: %v", a, b, l, got)
			}
		}
		if got, want := history.Restrict(l, a), expectRestrict(l, a); !slices.Equal(got, want) {
			t.Fatalf("Restrict of %+v to %d\n= %+v\nwant %+v", l, a, got, want)
		}
	}
}

// TestAllRight has all right histories of up to four operations that are invoked in one order, each of which has two answers.
func TestAllRight(t *testing.T) {
	commands := []api.Command{write(0, text(1)), read(0), flush(), trim(1)}
	serials := []int{6, 0, 9, 3}
	number := 0
	var grow func(l []api.Event, invoked int, open []int)
	grow = func(l []api.Event, invoked int, open []int) {
		number++
		holdShortly(t, l)
		holdOrder(t, l)
		if e := history.Check(1, l); e != api.OK {
			t.Fatalf("Check of %+v: %d", l, e)
		}
		var pending []int
		for i, o := range history.Operations(l) {
			if o.Serial != serials[i] || o.Command != commands[i] || o.Return == slices.Contains(open, i) {
				t.Fatalf("Operations of %+v: %+v", l, o)
			}
			if !o.Return {
				pending = append(pending, o.Serial)
			}
		}
		if got := history.Pending(l); !slices.Equal(got, pending) {
			t.Fatalf("Pending of %+v: %v", l, got)
		}
		if invoked < 4 {
			grow(append(slices.Clip(l), call(invoked, serials[invoked], commands[invoked])), invoked+1, append(slices.Clip(open), invoked))
		}
		for k, i := range open {
			rest := slices.Concat(open[:k], open[k+1:])
			grow(append(slices.Clip(l), done(i, serials[i], commands[i])), invoked, rest)
			grow(append(slices.Clip(l), failed(i, serials[i], commands[i], api.ErrClosed)), invoked, rest)
		}
	}
	grow(nil, 0, nil)
	if number != 1+3+19+193+2721 { // of no to four operations
		t.Errorf("%d histories", number)
	}
}

// TestResultsDependOnArgumentsAlone has the same calls again behind many others.
func TestResultsDependOnArgumentsAlone(t *testing.T) {
	l := right()[7]
	operations, pending, restricted := expectOperations(l), expectPending(l), expectRestrict(l, 0)
	for _, other := range lists(3, few()) {
		history.Check(len(other), other)
		history.Operations(other)
		history.Pending(other)
		history.Before(other, 0, 1)
		history.Restrict(other, 0)
		if e := history.Check(1, l); e != api.OK {
			t.Fatal(e)
		}
		if !slices.Equal(history.Operations(l), operations) || !slices.Equal(history.Pending(l), pending) ||
			!slices.Equal(history.Restrict(l, 0), restricted) || !history.Before(l, 1, 4) || history.Before(l, 4, 1) {
			t.Fatalf("behind %+v", other)
		}
	}
}
