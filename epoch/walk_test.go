package epoch_test

import (
	"math/rand/v2"
	"slices"
	"testing"

	"zoneappend/api"
	"zoneappend/epoch"
)

// walker is epochs, and a book of the slots that have been pinned without a break since each zone was retired: the readers
// that may still read in it.
type walker struct {
	e       api.Epochs
	readers map[int][]int
}

// begin is a walker with new epochs.
func begin(t *testing.T, slots int) *walker {
	t.Helper()
	return &walker{e: made(t, slots), readers: map[int][]int{}}
}

// fork is a walker of its own that stands at the same place.
func (w *walker) fork() *walker {
	f := &walker{e: w.e, readers: map[int][]int{}}
	for zone, slots := range w.readers {
		f.readers[zone] = slices.Clone(slots)
	}
	return f
}

// pinned are the slots that are pinned.
func (w *walker) pinned() []int {
	var slots []int
	for slot, p := range w.e.Pins {
		if p != -1 {
			slots = append(slots, slot)
		}
	}
	return slots
}

// step does a call, and writes into the book what it changed. It tells whether the call was possible.
func (w *walker) step(t *testing.T, c call) bool {
	t.Helper()
	next, ok := c.do(w.e, c.n)
	if !epoch.Valid(next) || next.Global < w.e.Global || !ok && !same(next, w.e) {
		t.Fatalf("%s of %d, %v: %v, %t", c.name, c.n, w.e, next, ok)
	}
	w.e = next
	switch {
	case ok && c.name == "Retire":
		w.readers[c.n] = w.pinned()
	case ok && c.name == "Forget":
		delete(w.readers, c.n)
	case ok && c.name == "Unpin":
		for zone, slots := range w.readers {
			w.readers[zone] = slices.DeleteFunc(slots, func(slot int) bool { return slot == c.n })
		}
	}
	return ok
}

// hold expects that the zones of the book are the retired ones, and that no reader is left of any zone that is ready.
func (w *walker) hold(t *testing.T) {
	t.Helper()
	for _, r := range w.e.Zones {
		if _, there := w.readers[r.Zone]; !there {
			t.Fatalf("the zone %d of %v was not retired", r.Zone, w.e)
		}
	}
	if len(w.e.Zones) != len(w.readers) {
		t.Fatalf("%v, but retired were %v", w.e, w.readers)
	}
	f := w.fork()
	for range w.e.Zones {
		zone, ok := epoch.Ready(f.e)
		if !ok {
			return
		}
		if len(f.readers[zone]) > 0 {
			t.Fatalf("%v: the zone %d is ready, but the slots %v were pinned when it was retired", w.e, zone, f.readers[zone])
		}
		if !f.step(t, forget(zone)) {
			t.Fatalf("%v: the zone %d is ready, but cannot be forgotten", f.e, zone)
		}
	}
}

// drain makes all slots unpinned, advances twice, and expects that every retired zone is ready then.
func (w *walker) drain(t *testing.T) {
	t.Helper()
	f := w.fork()
	for _, slot := range f.pinned() {
		f.step(t, unpin(slot))
	}
	if f.e.Global > most-2 {
		return
	}
	if !f.step(t, advance()) || !f.step(t, advance()) {
		t.Fatalf("%v without pins cannot advance", f.e)
	}
	for _, r := range slices.Clone(f.e.Zones) {
		if zone, ok := epoch.Ready(f.e); zone != r.Zone || !ok || !f.step(t, forget(zone)) {
			t.Fatalf("%v: Ready is %d, %t", f.e, zone, ok)
		}
	}
	if len(f.e.Zones) > 0 {
		t.Fatalf("left is %v", f.e)
	}
}

// TestAllWays goes all ways from new epochs, and from such as are near the end, through some epochs.
func TestAllWays(t *testing.T) {
	for _, c := range []struct{ slots, zones, epochs, from int }{{1, 3, 4, 0}, {2, 2, 4, 0}, {3, 1, 5, 0}, {2, 2, 4, most - 4}} {
		start := begin(t, c.slots)
		start.e.Global = c.from
		steps := calls(numbers(c.slots), numbers(c.zones))
		seen := map[string]bool{key(start): true}
		refused := map[string]int{}
		for level := []*walker{start}; len(level) > 0; {
			var next []*walker
			for _, w := range level {
				w.hold(t)
				w.drain(t)
				for _, s := range steps {
					f := w.fork()
					if !f.step(t, s) {
						refused[s.name]++
						continue
					}
					if k := key(f); !seen[k] && f.e.Global <= c.from+c.epochs {
						seen[k] = true
						next = append(next, f)
					}
				}
			}
			level = next
		}
		if len(seen) < 500 || len(refused) != 5 {
			t.Errorf("%v: %d places, refused were %v", c, len(seen), refused)
		}
	}
}

// numbers are the numbers below n.
func numbers(n int) []int {
	var l []int
	for i := range n {
		l = append(l, i)
	}
	return l
}

// key is a text that tells a walker from others: its epochs and its book.
func key(w *walker) string {
	b := []byte{byte(w.e.Global), byte(w.e.Global >> 40)}
	for _, p := range w.e.Pins {
		b = append(b, byte(p), byte(p>>40))
	}
	for _, r := range w.e.Zones {
		b = append(b, 'z', byte(r.Zone), byte(r.Epoch), byte(r.Epoch>>40))
		for _, slot := range w.readers[r.Zone] {
			b = append(b, byte(slot))
		}
	}
	return string(b)
}

// kept is epochs that were returned, and what they were then.
type kept struct{ now, then api.Epochs }

// holdKept expects that epochs that were returned are what they were.
func holdKept(t *testing.T, all []kept) {
	t.Helper()
	for i, k := range all {
		if !same(k.now, k.then) {
			t.Fatalf("the epochs %d of %d: %v\nbecame %v", i, len(all), k.then, k.now)
		}
	}
}

// TestWalks does any calls in any order, with readers that come and go, and zones that are retired and forgotten.
func TestWalks(t *testing.T) {
	for seed := range uint64(6) {
		for slots := 1; slots <= api.MaxQueues; slots++ {
			r := rand.New(rand.NewPCG(seed, 12))
			w := begin(t, slots)
			done, refused := map[string]int{}, map[string]int{}
			var returned []kept
			for range 1500 {
				ready, _ := epoch.Ready(w.e)
				slot, zone := r.IntN(slots), r.IntN(12)
				c := []call{pin(slot), unpin(slot), retire(zone), forget(zone), forget(ready), advance()}[r.IntN(6)]
				if w.step(t, c) {
					done[c.name]++
				} else {
					refused[c.name]++
				}
				w.hold(t)
				w.drain(t)
				returned = append(returned, kept{w.e, copied(w.e)})
			}
			holdKept(t, returned)
			if len(done) != 5 || len(refused) != 5 {
				t.Errorf("%d slots: done were %v, refused were %v", slots, done, refused)
			}
		}
	}
}

// TestManyFromOne makes many epochs of one, and of each of these: none changes another one.
func TestManyFromOne(t *testing.T) {
	for n := 1; n <= api.MaxQueues; n++ {
		for _, e := range []api.Epochs{free(4, n), with(mixed(4, n), in(8, 4), in(1, 2), in(6, 0), in(0, 1))} {
			level := []kept{{e, copied(e)}}
			all := slices.Clone(level)
			for range 3 {
				var next []kept
				for _, from := range level {
					for _, c := range calls(ends(n), []int{0, 1, 6, 9}) {
						if e, ok := c.do(from.now, c.n); ok {
							next = append(next, kept{e, copied(e)})
						}
					}
				}
				all = append(all, next...)
				level = next
			}
			holdKept(t, all)
		}
	}
}

// TestPinKeepsZone has a slot that stays pinned, whatever the others do: no zone that is retired meanwhile gets ready.
func TestPinKeepsZone(t *testing.T) {
	for slots := 1; slots <= api.MaxQueues; slots++ {
		for slot := range slots {
			w := begin(t, slots)
			w.step(t, retire(0)) // before the slot is pinned
			for range 5 {
				w.step(t, advance())
			}
			w.step(t, pin(slot))
			w.step(t, retire(1))
			for other := range slots * 6 {
				w.step(t, advance())
				if other %= slots; other != slot {
					w.step(t, pin(other))
					w.step(t, unpin(other))
				}
				w.step(t, retire(2+other))
			}
			holdReady(t, w.e, 0, true)
			w.step(t, forget(0))
			holdReady(t, w.e, 0, false)
			if w.e.Global != 6 || len(w.e.Zones) != 1+slots {
				t.Errorf("%d slots: %v", slots, w.e)
			}
			w.drain(t)
		}
	}
}
