package durable_test

import (
	"math/rand/v2"
	"slices"
	"testing"

	"zoneappend/api"
	"zoneappend/durable"
	"zoneappend/linear"
)

// run is a run of a device, with a book of what its blocks were.
type run struct {
	r      *rand.Rand
	kinds  []int       // of its commands
	blocks []string    // at the beginning
	now    []string    // what the blocks are
	l      []api.Event // its history
	was    [][]string  // what the blocks were at last, ahead of each event
	since  []moment    // what the blocks became, and when
	open   []api.Event // operations that have not happened, as calls
	ready  []api.Event // operations that have happened, as returns
	values int         // that were written
}

// moment is what the blocks became behind some events.
type moment struct {
	events int
	blocks []string
}

// invoke invokes an operation.
func (w *run) invoke(serial int) {
	block := w.r.IntN(len(w.blocks))
	x := read(block)
	switch w.kinds[w.r.IntN(len(w.kinds))] {
	case api.Write:
		w.values++
		x = write(block, text(1000+w.values))
		if w.r.IntN(4) == 0 {
			x.Data = text(w.r.IntN(3))
		}
	case api.Trim:
		x = trim(block)
	case api.Flush:
		x = flush()
	}
	w.event(call(serial, x))
	w.open = append(w.open, call(serial, x))
}

// event has an event in the history.
func (w *run) event(e api.Event) {
	w.was = append(w.was, slices.Clone(w.now))
	w.l = append(w.l, e)
}

// happen lets an open operation happen, or fail.
func (w *run) happen(fails bool) {
	k := w.r.IntN(len(w.open))
	e := w.open[k]
	w.open = slices.Delete(w.open, k, k+1)
	x := e.Command
	e.Return = true
	switch {
	case fails:
		e.Result.Err = errors[w.r.IntN(len(errors))]
	case x.Kind == api.Read:
		e.Result.Data = w.now[x.Block]
	case x.Kind == api.Write:
		w.now[x.Block] = x.Data
	case x.Kind == api.Trim:
		w.now[x.Block] = zero
	}
	w.since = append(w.since, moment{len(w.l), slices.Clone(w.now)})
	w.ready = append(w.ready, e)
}

// answer answers an operation that has happened.
func (w *run) answer() {
	k := w.r.IntN(len(w.ready))
	w.event(w.ready[k])
	w.ready = slices.Delete(w.ready, k, k+1)
}

// walk is a run of n operations, of which no more than some are open at once, and the last ones may stay so.
func walk(r *rand.Rand, kinds []int, blocks []string, n, atOnce int) *run {
	w := &run{r: r, kinds: kinds, blocks: blocks, now: slices.Clone(blocks)}
	serials := r.Perm(2 * n)
	for i := 0; i < n || r.IntN(8) > 0; {
		switch k := r.IntN(3); {
		case k == 0 && i < n && len(w.open)+len(w.ready) < atOnce:
			w.invoke(serials[i])
			i++
		case k == 1 && len(w.open) > 0:
			w.happen(r.IntN(10) == 0)
		case k == 2 && len(w.ready) > 0:
			w.answer()
		}
	}
	return w
}

// finish lets all open operations happen and be answered, and then does a Flush with OK, if flushed says so.
func (w *run) finish(flushed bool) {
	for len(w.open) > 0 {
		w.happen(false)
	}
	for len(w.ready) > 0 {
		w.answer()
	}
	if flushed {
		w.event(call(100000, flush()))
		w.event(done(100000, flush()))
	}
}

// all are the kinds of commands, with many Writes.
var all = []int{api.Write, api.Write, api.Write, api.Trim, api.Flush, api.Read}

// some are n blocks of a few values.
func some(r *rand.Rand, n int) []string {
	var blocks []string
	for range n {
		blocks = append(blocks, []string{zero, text(1), text(2)}[r.IntN(3)])
	}
	return blocks
}

// survives is what a crash behind n events may leave: each block as it was at the point of these events, or as it became later.
func (w *run) survives(n int) []string {
	point := expectPoint(w.l[:n])
	at := [][]string{w.blocks}
	if point > 0 {
		at[0] = w.was[point]
	}
	for _, m := range w.since {
		if point < m.events && m.events <= n {
			at = append(at, m.blocks)
		}
	}
	var found []string
	for b := range w.blocks {
		found = append(found, at[w.r.IntN(len(at))][b])
	}
	return found
}

// TestCrashes has runs that crash at each step: each block as it was at the last Flush, or as it became later, is allowed.
func TestCrashes(t *testing.T) {
	for seed := range uint64(80) {
		r := rand.New(rand.NewPCG(seed, 20))
		blocks := some(r, 1+r.IntN(6))
		w := walk(r, all, blocks, 2+r.IntN(12*len(blocks)), 1+r.IntN(8))
		for n := range len(w.l) + 1 {
			for range 4 {
				found := w.survives(n)
				if e := durable.Check(blocks, w.l[:n], found); e != api.OK {
					t.Fatalf("Check of %q for %+v on %q: %d", found, w.l[:n], blocks, e)
				}
			}
		}
		holdCheck(t, blocks, w.l, w.survives(len(w.l)), api.OK)
	}
}

// TestWalks has runs, and all their beginnings, against the second reading of the chapter, and against layer 19 where it has no limit.
func TestWalks(t *testing.T) {
	refused, taken := 0, 0
	for seed := range uint64(250) {
		r := rand.New(rand.NewPCG(seed, 21))
		blocks := some(r, 1+r.IntN(3))
		w := walk(r, all, blocks, 2+r.IntN(18), 1+r.IntN(6))
		for n := range len(w.l) + 1 {
			quickly(t, blocks, w.l[:n])
		}
		holdValues(t, blocks, w.l)
		for range 10 {
			found := w.survives(r.IntN(len(w.l) + 1)) // of an earlier crash
			want := expectCheck(blocks, w.l, found)
			if got := durable.Check(blocks, w.l, found); got != want {
				t.Fatalf("Check of %q for %+v on %q: %d, want %d", found, w.l, blocks, got, want)
			}
			if want == api.OK {
				taken++
			} else {
				refused++
			}
		}
	}
	if refused < 300 || taken < 300 {
		t.Errorf("%d were refused, and %d were not", refused, taken)
	}
}

// TestEnds has runs that have a linearization: what a block can be behind one is allowed.
func TestEnds(t *testing.T) {
	for seed := range uint64(200) {
		r := rand.New(rand.NewPCG(seed, 22))
		blocks := some(r, 1)
		w := walk(r, all, blocks, 2+r.IntN(16), 1+r.IntN(6))
		part := slices.DeleteFunc(slices.Clone(w.l), func(e api.Event) bool { return e.Command.Kind == api.Flush })
		for _, value := range linear.Values(blocks[0], part) {
			holdCheck(t, blocks, w.l, []string{value}, api.OK)
			holdCheck(t, blocks, part, []string{value}, api.OK)
		}
	}
}

// TestWithoutFlush has runs without a Flush, with pending ones, and with ones that failed: everything that was ever written, and what was
// there at the beginning, is allowed.
func TestWithoutFlush(t *testing.T) {
	for seed := range uint64(80) {
		r := rand.New(rand.NewPCG(seed, 23))
		blocks := some(r, 1+r.IntN(3))
		w := walk(r, []int{api.Write, api.Write, api.Trim, api.Read}, blocks, 2+r.IntN(40), 1+r.IntN(6))
		l := w.l
		for i := range 3 {
			at := r.IntN(len(l) + 1)
			l = slices.Insert(slices.Clone(l), at, call(100000+i, flush()))
			if i > 0 {
				l = slices.Insert(l, at+1, failed(100000+i, flush(), errors[r.IntN(len(errors))]))
			}
		}
		for _, l := range [][]api.Event{w.l, l} {
			for b := range blocks {
				values := []string{blocks[b]}
				for _, e := range l {
					k := place(l, true, e.Serial)
					if !e.Return && isChange(e, b) && (k < 0 || l[k].Result.Err == api.OK) {
						values = append(values, valueOf(e.Command))
					}
				}
				holdAllowed(t, blocks, l, b, slices.Compact(sorted(values...)))
			}
		}
	}
}

// TestAllIsFlushed has runs in which all was answered, and then a Flush: what was not overwritten is all that is allowed. What is invoked
// behind it is allowed as well, until it fails, and another Flush in between changes nothing.
func TestAllIsFlushed(t *testing.T) {
	for seed := range uint64(120) {
		r := rand.New(rand.NewPCG(seed, 24))
		blocks := some(r, 1+r.IntN(3))
		atOnce := 1 + r.IntN(5)
		w := walk(r, all, blocks, 2+r.IntN(40), atOnce)
		w.finish(true)
		for b := range blocks {
			var values []string
			first := true
			for i, e := range w.l {
				if e.Return && e.Result.Err == api.OK && isChange(e, b) {
					first = false
					if !isOverwritten(w.l, i, b) {
						values = append(values, valueOf(e.Command))
					}
				}
			}
			if first {
				values = blocks[b : b+1]
			}
			values = slices.Compact(sorted(slices.Clone(values)...))
			if atOnce == 1 && !slices.Equal(values, w.now[b:b+1]) {
				t.Fatalf("%q is not overwritten in %+v, but the block is %q", values, w.l, w.now[b])
			}
			holdAllowed(t, blocks, w.l, b, values)
			holdAllowed(t, blocks, append(slices.Clone(w.l), whole(100001, flush())...), b, values)
			later := write(b, text(900000))
			next := slices.Compact(sorted(append(slices.Clone(values), text(900000))...))
			holdAllowed(t, blocks, append(slices.Clone(w.l), call(100002, later)), b, next)
			holdAllowed(t, blocks, join(w.l, whole(100002, later)), b, next)
			holdAllowed(t, blocks, join(w.l, vain(100002, later, api.ErrFull)), b, values)
			holdAllowed(t, blocks, join(w.l, whole(100001, flush()), whole(100002, later)), b, next)
			holdAllowed(t, blocks, join(w.l, whole(100002, later), whole(100001, flush())), b, texts(900000))
		}
	}
}

// isOverwritten tells whether behind what was answered at a place another Write or Trim of the block was invoked and answered with OK.
func isOverwritten(l []api.Event, at, block int) bool {
	for i, e := range l[at:] {
		if k := place(l, true, e.Serial); !e.Return && isChange(e, block) && k > at+i && l[k].Result.Err == api.OK {
			return true
		}
	}
	return false
}

// spoil changes a history: when an event was, a command, a Serial, or a result.
func spoil(r *rand.Rand, l []api.Event) {
	i, k := r.IntN(len(l)), r.IntN(len(l))
	switch r.IntN(8) {
	case 0, 1:
		l[i], l[k] = l[k], l[i]
	case 2:
		l[i].Result.Err = errors[r.IntN(len(errors))]
	case 3:
		l[i].Serial = l[k].Serial
	case 4:
		l[i].Return = !l[i].Return
	case 5, 6, 7:
		x := []api.Command{write(0, text(1)), write(1, text(2)), trim(0), trim(2), flush(), {Kind: 7}}[r.IntN(6)]
		s := l[i].Serial
		for j := range l {
			if l[j].Serial == s {
				l[j].Command, l[j].Result.Data = x, ""
			}
		}
	}
}

// TestSpoiled has the histories of runs with some changes, of which many are not right, against the second reading of the chapter.
func TestSpoiled(t *testing.T) {
	number := map[api.Errno]int{}
	for seed := range uint64(3000) {
		r := rand.New(rand.NewPCG(seed, 25))
		blocks := some(r, 2)
		w := walk(r, all, blocks, 2+r.IntN(14), 1+r.IntN(5))
		for range 1 + r.IntN(3) {
			spoil(r, w.l)
		}
		quickly(t, blocks, w.l)
		number[expectGiven(blocks, w.l)]++
	}
	if number[api.OK] < 800 || number[api.ErrOrder] < 800 {
		t.Errorf("%v", number)
	}
}
