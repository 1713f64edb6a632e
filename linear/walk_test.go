package linear_test

import (
	"math/rand/v2"
	"slices"
	"testing"

	"zoneappend/api"
	"zoneappend/linear"
)

// run is a run of a device, with a book of when each operation happened.
type run struct {
	r      *rand.Rand
	blocks []string
	now    []string    // what the blocks are
	l      []api.Event // its history
	order  []int       // the Serials of what has happened
	open   []api.Event // operations that have not happened, as calls
	ready  []api.Event // operations that have happened, as returns
}

// command is any command, mostly a right one, that writes one of few values.
func (w *run) command() api.Command {
	block, value := w.r.IntN(len(w.blocks)), text(1+w.r.IntN(3))
	all := []api.Command{
		read(block), read(block), read(block), write(block, value), write(block, value), trim(block), flush(), read(len(w.blocks)), write(block, "short"),
	}
	if len(w.blocks) == 1 {
		all = all[:6]
	}
	return all[w.r.IntN(len(all))]
}

// invoke invokes an operation.
func (w *run) invoke(serial int) {
	e := call(serial, w.command())
	w.l = append(w.l, e)
	w.open = append(w.open, e)
}

// happen lets an open operation happen, or fail.
func (w *run) happen() {
	k := w.r.IntN(len(w.open))
	e := w.open[k]
	w.open = slices.Delete(w.open, k, k+1)
	e.Return = true
	if w.r.IntN(12) == 0 {
		e.Result.Err = api.ErrFull
	} else if e.Result = apply(w.now, e.Command); e.Result.Err == api.OK {
		w.order = append(w.order, e.Serial)
	}
	w.ready = append(w.ready, e)
}

// answer answers an operation that has happened.
func (w *run) answer() {
	k := w.r.IntN(len(w.ready))
	w.l = append(w.l, w.ready[k])
	w.ready = slices.Delete(w.ready, k, k+1)
}

// walk is a run of n operations, of which no more than some are open at once, and the last ones may stay so.
func walk(r *rand.Rand, blocks []string, n, atOnce int) *run {
	w := &run{r: r, blocks: blocks, now: slices.Clone(blocks)}
	serials := r.Perm(2 * n)
	for i := 0; i < n || r.IntN(8) > 0; {
		switch k := r.IntN(3); {
		case k == 0 && i < n && len(w.open)+len(w.ready) < atOnce:
			w.invoke(serials[i])
			i++
		case k == 1 && len(w.open) > 0:
			w.happen()
		case k == 2 && len(w.ready) > 0:
			w.answer()
		}
	}
	return w
}

// some are n blocks of a few values.
func some(r *rand.Rand, n int) []string {
	var blocks []string
	for range n {
		blocks = append(blocks, []string{zero, text(1), text(2)}[r.IntN(3)])
	}
	return blocks
}

// TestWalks has runs with many operations on some blocks: the order in which they happened is a linearization, and one is found, for each
// beginning of their histories too.
func TestWalks(t *testing.T) {
	for seed := range uint64(60) {
		r := rand.New(rand.NewPCG(seed, 19))
		blocks := some(r, 2+r.IntN(9))
		w := walk(r, blocks, 2+r.IntN(10*len(blocks)), 1+r.IntN(8))
		holdCheck(t, blocks, w.l, w.order, api.OK)
		holdFind(t, blocks, w.l, true)
		for n := range len(w.l) + 1 {
			order, ok := linear.Find(blocks, w.l[:n])
			holdFound(t, blocks, w.l[:n], order, ok, true)
		}
		for b, value := range blocks {
			part := slices.DeleteFunc(slices.Clone(w.l), func(e api.Event) bool { return e.Command.Block != b || e.Command.Kind == api.Flush })
			values := linear.Values(value, onto(part, 0))
			if !slices.Contains(values, w.now[b]) || !slices.IsSorted(values) || len(slices.Compact(slices.Clone(values))) < len(values) {
				t.Fatalf("%q for %+v on %q, which became %q", values, part, value, w.now[b])
			}
		}
	}
}

// TestOrdersOfWalks has the orders in which the operations of runs happened, with a change, against the second reading of the chapter.
func TestOrdersOfWalks(t *testing.T) {
	number := map[api.Errno]int{}
	for seed := range uint64(2000) {
		r := rand.New(rand.NewPCG(seed, 20))
		blocks := some(r, 2)
		w := walk(r, blocks, 2+r.IntN(12), 1+r.IntN(5))
		all := serials(w.l)
		order := w.order
		for range 6 {
			changed := slices.Clone(order)
			i, s := r.IntN(len(order)+1), all[r.IntN(len(all))]
			switch k := r.IntN(4); {
			case k == 0 || len(order) < 2:
				changed = slices.Insert(changed, i, s)
			case k == 1:
				changed = slices.Delete(changed, i-min(i, 1), max(i, 1))
			case i > 1:
				changed[i-1], changed[i-2] = changed[i-2], changed[i-1]
			}
			want := expectCheck(blocks, w.l, changed)
			if got := linear.Check(blocks, w.l, changed); got != want {
				t.Fatalf("Check of %v for %+v on %q: %d, want %d", changed, w.l, blocks, got, want)
			}
			if number[want]++; want == api.OK {
				order = changed
			}
		}
	}
	if number[api.OK] < 2000 || number[api.ErrOrder] < 2000 {
		t.Errorf("%v", number)
	}
}

// spoil changes a history: what a Read returned, when an event was, or a command.
func spoil(r *rand.Rand, l []api.Event) {
	i := r.IntN(len(l))
	switch r.IntN(4) {
	case 0, 1:
		if l[i].Return && l[i].Result.Err == api.OK && l[i].Command.Kind == api.Read {
			l[i].Result.Data = []string{zero, text(1), text(2), text(3)}[r.IntN(4)]
		}
	case 2:
		k := min(i+1+r.IntN(4), len(l)-1)
		l[i], l[k] = l[k], l[i]
	case 3:
		if l[i].Command.Kind == api.Write {
			x, s := write(l[i].Command.Block, text(1+r.IntN(3))), l[i].Serial
			for k := range l {
				if l[k].Serial == s {
					l[k].Command = x
				}
			}
		}
	}
}

// TestSpoiled has the histories of runs with some changes, against the second reading of the chapter: histories of one block, up to the
// greatest number of operations, and ones of several.
func TestSpoiled(t *testing.T) {
	found := 0
	const times = 4000
	for seed := range uint64(times) {
		r := rand.New(rand.NewPCG(seed, 21))
		blocks := some(r, 1)
		w := walk(r, blocks, 2+r.IntN(19), 1+r.IntN(6))
		for range r.IntN(9) {
			spoil(r, w.l)
		}
		if holdShortly(t, blocks[0], w.l) {
			found++
		}
	}
	if found < times/4 || found > times*2/3 {
		t.Errorf("%d of one block", found)
	}
	found = 0
	for seed := range uint64(times) {
		r := rand.New(rand.NewPCG(seed, 22))
		blocks := some(r, 2+r.IntN(2))
		w := walk(r, blocks, 2+r.IntN(14), 1+r.IntN(4))
		for range r.IntN(9) {
			spoil(r, w.l)
		}
		order, ok := linear.Find(blocks, w.l)
		holdFound(t, blocks, w.l, order, ok, expectFind(blocks, w.l))
		holdConsequences(t, blocks, w.l, ok)
		if ok {
			found++
		}
	}
	if found < times/4 || found > times*2/3 {
		t.Errorf("%d of several blocks", found)
	}
}

// holdConsequences expects of a history that it is linearizable exactly if its restrictions are, and that its beginnings are if it is.
func holdConsequences(t *testing.T, blocks []string, l []api.Event, found bool) {
	t.Helper()
	if expectHistory(len(blocks), l) == api.OK {
		holdParts(t, blocks, l, found)
	}
	below := true
	for n := range len(l) + 1 {
		_, ok := linear.Find(blocks, l[:n])
		holdBelow(t, l[:n], below, ok)
		below = ok
	}
}

// TestResultsAreNew writes into what was returned, as nobody should: what was given does not change, and neither does what is returned next.
func TestResultsAreNew(t *testing.T) {
	l := append(atOnce(3, 3, true), join(whole(10, read(0), text(2)), whole(11, flush(), ""))...)
	one := slices.DeleteFunc(slices.Clone(l), func(e api.Event) bool { return e.Command.Kind == api.Flush })
	for range 3 {
		given(t, []string{zero, text(5)}, l, func(blocks []string, l []api.Event) {
			order, ok := linear.Find(blocks, l)
			holdFound(t, blocks, l, order, ok, true)
			for i := range order {
				order[i] = 99
			}
			_ = append(order, 99)
		})
		given(t, []string{zero}, one, func(blocks []string, l []api.Event) {
			order, ok := linear.Block(zero, l)
			holdFound(t, blocks, l, order, ok, true)
			for i := range order {
				order[i] = 99
			}
			values := linear.Values(zero, l)
			if !slices.Equal(values, []string{text(2)}) {
				t.Fatalf("%q", values)
			}
			values[0] = "x"
		})
	}
}

// TestManyFromOne makes many orders for one history: none disturbs another one.
func TestManyFromOne(t *testing.T) {
	r := rand.New(rand.NewPCG(1, 19))
	blocks := some(r, 3)
	w := walk(r, blocks, 40, 4)
	var now, then [][]int
	for n := range len(w.l) + 1 {
		order, ok := linear.Find(blocks, w.l[:n])
		holdFound(t, blocks, w.l[:n], order, ok, true)
		now, then = append(now, order), append(then, slices.Clone(order))
	}
	for i := range now {
		if !slices.Equal(now[i], then[i]) {
			t.Fatalf("%v became %v", then[i], now[i])
		}
	}
}
