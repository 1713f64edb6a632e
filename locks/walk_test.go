package locks_test

import (
	"math/rand/v2"
	"slices"
	"testing"

	"zoneappend/api"
	"zoneappend/locks"
)

// kept is locks that were returned, and what they were then.
type kept struct{ now, then api.Locks }

// holdKept expects that locks that were returned are what they were.
func holdKept(t *testing.T, all []kept) {
	t.Helper()
	for i, k := range all {
		if !same(k.now, k.then) {
			t.Fatalf("the locks %d of %d: %v\nbecame %v", i, len(all), k.then, k.now)
		}
	}
}

// walker is locks, and a book of the stripes that each thread has taken and not given back.
type walker struct {
	n, threads               int
	l                        api.Locks
	book                     []map[int]bool
	returned                 []kept
	taken, given, full, none int
}

// begin is a walker with new locks.
func begin(t *testing.T, stripes, threads int) *walker {
	t.Helper()
	w := &walker{n: stripes, threads: threads, l: made(t, stripes)}
	for range threads {
		w.book = append(w.book, map[int]bool{})
	}
	return w
}

// held tells whether any thread has a stripe in its book.
func (w *walker) held(stripe int) bool {
	return slices.ContainsFunc(w.book, func(b map[int]bool) bool { return b[stripe] })
}

// became has the locks that a call returned.
func (w *walker) became(l api.Locks) {
	w.l = l
	w.returned = append(w.returned, kept{l, copied(l)})
}

// take lets a thread take a stripe, which it gets exactly if nobody has it.
func (w *walker) take(t *testing.T, stripe, thread int) {
	t.Helper()
	held := w.held(stripe)
	l, ok := locks.Take(w.l, stripe, thread)
	if ok == held {
		t.Fatalf("Take of the stripe %d of %v by %d: %t", stripe, w.l, thread, ok)
	}
	w.became(l)
	if held {
		w.full++
		return
	}
	w.book[thread][stripe] = true
	w.taken++
}

// give lets a thread give a stripe back, which it can exactly if it has it.
func (w *walker) give(t *testing.T, stripe, thread int) {
	t.Helper()
	has := w.book[thread][stripe]
	l, ok := locks.Give(w.l, stripe, thread)
	if ok != has {
		t.Fatalf("Give of the stripe %d of %v by %d: %t", stripe, w.l, thread, ok)
	}
	w.became(l)
	if !has {
		w.none++
		return
	}
	delete(w.book[thread], stripe)
	w.given++
}

// hold expects that the locks are those of the book: each thread holds what it has taken and not given back.
func (w *walker) hold(t *testing.T) {
	t.Helper()
	want := free(w.n)
	for thread, b := range w.book {
		var stripes []int
		for stripe := range w.n {
			if b[stripe] {
				stripes = append(stripes, stripe)
				want.Owner[stripe] = thread
			}
		}
		if got := locks.Held(w.l, thread); !slices.Equal(got, stripes) {
			t.Fatalf("Held of %v by %d: %v, want %v", w.l, thread, got, stripes)
		}
	}
	if !locks.Valid(w.l) || !same(w.l, want) {
		t.Fatalf("%v, want %v", w.l, want)
	}
	for stripe := range w.n {
		if locks.Free(w.l, stripe) == w.held(stripe) {
			t.Fatalf("Free of the stripe %d of %v", stripe, w.l)
		}
	}
}

// TestWalks has threads that take and give back any stripes in any order.
func TestWalks(t *testing.T) {
	for seed := range uint64(4) {
		for _, stripes := range []int{1, 2, 5, api.MaxShards} {
			r := rand.New(rand.NewPCG(seed, 11))
			w := begin(t, stripes, 2+r.IntN(6))
			for range 2000 {
				if r.IntN(3) == 0 {
					w.take(t, r.IntN(stripes), r.IntN(w.threads))
				} else {
					w.give(t, r.IntN(stripes), r.IntN(w.threads))
				}
				w.hold(t)
			}
			holdKept(t, w.returned)
			if w.taken == 0 || w.given == 0 || w.full == 0 || w.none == 0 {
				t.Errorf("%d stripes: %d taken, %d given, %d held, %d not", stripes, w.taken, w.given, w.full, w.none)
			}
		}
	}
}

// TestAllRows has all rows of five calls with two stripes and two threads.
func TestAllRows(t *testing.T) {
	for row := range 8 * 8 * 8 * 8 * 8 {
		w := begin(t, 2, 2)
		for range 5 {
			stripe, thread, give := row&1, row>>1&1, row>>2&1
			row >>= 3
			if give == 1 {
				w.give(t, stripe, thread)
			} else {
				w.take(t, stripe, thread)
			}
			w.hold(t)
		}
		holdKept(t, w.returned)
	}
}

// TestManyFromOne makes many locks of one, and of each of these: none changes another one.
func TestManyFromOne(t *testing.T) {
	for n := 1; n <= api.MaxShards; n++ {
		level := []kept{{mixed(n), mixed(n)}}
		all := slices.Clone(level)
		for range 3 {
			var next []kept
			for _, from := range level {
				for _, stripe := range ends(n) {
					a, _ := locks.Take(from.now, stripe, 3)
					b, _ := locks.Give(from.now, stripe, 4)
					c, _ := locks.Give(from.now, stripe, 3)
					for _, made := range []api.Locks{a, b, c} {
						next = append(next, kept{made, copied(made)})
					}
				}
			}
			all = append(all, next...)
			level = next
		}
		holdKept(t, all)
	}
}
