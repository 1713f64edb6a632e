package history_test

import (
	"math/rand/v2"
	"slices"
	"testing"

	"zoneappend/api"
	"zoneappend/history"
)

// book is what a walk knows of an operation: when it was invoked and answered (0: it was not).
type book struct {
	event         api.Event
	from, to, was int
}

// command is any command that has a right result.
func command(r *rand.Rand, i int) api.Command {
	return []api.Command{read(r.IntN(3)), write(r.IntN(3), text(i)), trim(r.IntN(3)), flush(), {Kind: 7}}[r.IntN(5)]
}

// walk is a right history with any order of calls and returns, and the book of its operations in the order of their invocations. Pending
// ones become more and fewer, as often says.
func walk(r *rand.Rand, n, often int) ([]api.Event, []book) {
	var l []api.Event
	var all []book
	var open []int // places in all
	serials := r.Perm(2 * n)
	for i := range n {
		if len(open) == 0 || r.IntN(10) < often {
			e := call(r.IntN(4), serials[i], command(r, i))
			l = append(l, e)
			open = append(open, len(all))
			all = append(all, book{event: e, from: i + 1})
			continue
		}
		k := r.IntN(len(open))
		o := &all[open[k]]
		open = slices.Delete(open, k, k+1)
		o.event = done(o.event.Queue, o.event.Serial, o.event.Command)
		if r.IntN(3) == 0 {
			o.event = failed(o.event.Queue, o.event.Serial, o.event.Command, fitting[1+r.IntN(5)])
		}
		l = append(l, o.event)
		o.to = i + 1
	}
	return l, all
}

// holdBook expects of a history what the book of its operations says.
func holdBook(t *testing.T, l []api.Event, all []book) {
	t.Helper()
	var operations []api.Event
	var pending []int
	for _, a := range all {
		operations = append(operations, a.event)
		if a.to == 0 {
			pending = append(pending, a.event.Serial)
		}
		for _, b := range all {
			if got := history.Before(l, a.event.Serial, b.event.Serial); got != (a.to > 0 && a.to < b.from) {
				t.Fatalf("Before of %+v and %+v: %v", a, b, got)
			}
		}
	}
	holdOperations(t, l, operations, pending)
}

// TestWalks has long right histories, against their books.
func TestWalks(t *testing.T) {
	for seed := range uint64(6) {
		for _, n := range []int{1, 2, 30, 399, api.MaxEvents} {
			for _, often := range []int{2, 5, 6, 9} {
				l, all := walk(rand.New(rand.NewPCG(seed, uint64(n*often))), n, often)
				holdCheck(t, 1, l, api.OK)
				holdCheck(t, 0, l, api.ErrRange)
				holdBook(t, l, all)
				holdBeginnings(t, l)
				if n <= 30 {
					holdOrder(t, l)
				}
				for block := -1; block <= 3; block++ {
					holdRestrict(t, l, block, expectRestrict(l, block))
				}
			}
		}
	}
}

// spoil changes something of an event.
func spoil(r *rand.Rand, e api.Event) api.Event {
	switch r.IntN(10) {
	case 0:
		e.Return = !e.Return
	case 1:
		e.Queue = r.IntN(6) - 1
	case 2:
		e.Serial = r.IntN(40) - 1
	case 3:
		e.Command.Kind = r.IntN(6)
	case 4:
		e.Command.Block += r.IntN(3) - 1
	case 5:
		e.Command.Data = bytes(r.IntN(3))
	case 6:
		e.Result.Err = api.Errno(r.IntN(20))
	case 7:
		e.Result.Data = bytes(15 + r.IntN(3))
	case 8:
		e.Result.Data = ""
	case 9:
		e = api.Event{Return: r.IntN(2) == 0, Queue: r.IntN(4), Serial: r.IntN(30), Command: command(r, 0)}
	}
	return e
}

// TestSpoiled has right histories of which one or more events were changed, added, left out, or have changed places, against the second
// reading of the chapter.
func TestSpoiled(t *testing.T) {
	number := map[api.Errno]int{}
	for seed := range uint64(6000) {
		r := rand.New(rand.NewPCG(seed, 18))
		l, _ := walk(r, 1+r.IntN(24), 5)
		for range 1 + r.IntN(3) {
			i, k := r.IntN(len(l)), r.IntN(len(l))
			switch r.IntN(6) {
			case 0:
				l = slices.Insert(l, i, l[k])
			case 1:
				l = slices.Delete(l, i, i+1)
			case 2:
				l[i], l[k] = l[k], l[i]
			default:
				l[i] = spoil(r, l[i])
			}
			if len(l) == 0 {
				l = []api.Event{call(0, 0, read(0))}
			}
		}
		number[expectCheck(1, l)]++
		holdAll(t, l, []int{0, 1, 2, 3, l[0].Serial, l[len(l)/2].Serial, l[len(l)-1].Serial}, []int{-1, 0, 1, 2, 3})
	}
	if number[api.OK] < 500 || number[api.ErrOrder] < 2000 {
		t.Errorf("%v", number)
	}
}

// TestLong has histories longer than any right one: all but Check look at them too.
func TestLong(t *testing.T) {
	r := rand.New(rand.NewPCG(1, 18))
	l, _ := walk(r, 3000, 5)
	holdCheck(t, 1, l, api.ErrLimit)
	holdOperations(t, l, expectOperations(l), expectPending(l))
	holdRestrict(t, l, 1, expectRestrict(l, 1))
	for range 300 {
		a, b := r.IntN(3000), r.IntN(3000)
		holdBefore(t, l, a, b, expectBefore(l, a, b))
	}
}

// kept are events that were returned, and what they were then.
type kept struct{ now, then []api.Event }

// keep keeps events.
func keep(l []api.Event) kept { return kept{l, slices.Clone(l)} }

// TestManyFromOne makes many lists of one, and of each of these: none disturbs another one.
func TestManyFromOne(t *testing.T) {
	for _, room := range []int{0, 1, 40} {
		given := append(make([]api.Event, 0, 30+room), right()[7]...)
		given = append(given, moved(right()[7], 100)...)
		all := []kept{keep(given)}
		level := slices.Clone(all)
		for range 3 {
			var next []kept
			for _, from := range level {
				half := from.now[:len(from.now)/2] // behind which there is something already
				for _, l := range [][]api.Event{
					history.Operations(from.now), history.Restrict(from.now, 0), history.Restrict(from.now, 1),
					history.Operations(half), history.Restrict(half, 0),
				} {
					history.Check(1, l)
					history.Pending(l)
					next = append(next, keep(l))
				}
			}
			all, level = append(all, next...), next
		}
		for i, k := range all {
			if !slices.Equal(k.now, k.then) {
				t.Fatalf("the events %d: %+v\nbecame %+v", i, k.then, k.now)
			}
		}
	}
}

// TestResultsAreNew writes into what was returned, as nobody should: what was given does not change.
func TestResultsAreNew(t *testing.T) {
	x := trim(1)
	for _, l := range [][]api.Event{
		{call(0, 0, x)}, {call(0, 0, x), call(0, 1, x)}, {call(0, 0, x), done(0, 0, x)},
		{call(0, 5, read(1)), call(1, 0, x), done(1, 0, x), call(0, 1, x)},
	} {
		for _, room := range []int{0, 1, 5} {
			given := append(make([]api.Event, 0, len(l)+room), l...)
			whole := given[:cap(given)]
			was := slices.Clone(whole)
			for _, result := range [][]api.Event{history.Operations(given), history.Restrict(given, 1), history.Restrict(given, 0)} {
				for i := range result {
					result[i] = call(9, 9, flush())
				}
				_ = append(result, call(9, 9, flush()))
			}
			for i, serials := 0, history.Pending(given); i < len(serials); i++ {
				serials[i] = 9
			}
			if !slices.Equal(whole, was) {
				t.Fatalf("%+v\nbecame %+v", was, whole)
			}
			holdAll(t, given, []int{0, 1}, []int{0, 1})
		}
	}
}
