package epoch_test

import (
	"math"
	"slices"
	"testing"

	"zoneappend/api"
	"zoneappend/epoch"
)

// TestExample has the chapter's example, with each number of slots.
func TestExample(t *testing.T) {
	for n := 1; n <= api.MaxQueues; n++ {
		e, ok := epoch.Retire(free(3, n), 6)
		holdReady(t, e, 0, false)
		e, next := epoch.Advance(e)
		holdReady(t, e, 0, false)
		e, last := epoch.Advance(e)
		holdReady(t, e, 6, true)
		if !same(e, with(free(5, n), in(6, 3))) || !ok || !next || !last {
			t.Errorf("%d slots: %v, %t, %t, %t", n, e, ok, next, last)
		}
	}
}

// TestReadme has what README.md does with epochs of two slots.
func TestReadme(t *testing.T) {
	e := made(t, 2)
	var ok [8]bool
	e, ok[0] = epoch.Pin(e, 1)
	e, ok[1] = epoch.Retire(e, 7)
	e, ok[2] = epoch.Advance(e)
	e, ok[3] = epoch.Advance(e)
	e, ok[4] = epoch.Unpin(e, 1)
	e, ok[5] = epoch.Advance(e)
	holdReady(t, e, 7, true)
	e, ok[6] = epoch.Forget(e, 7)
	e, ok[7] = epoch.Forget(e, 7)
	if !same(e, free(2, 2)) || ok != [8]bool{true, true, true, false, true, true, true, false} {
		t.Errorf("%v, %v", e, ok)
	}
}

// TestPin pins slots that are unpinned, and such as are pinned in the present epoch or in the one before it.
func TestPin(t *testing.T) {
	for _, global := range globals() {
		for n := 1; n <= api.MaxQueues; n++ {
			for _, e := range samples(global, n) {
				for slot := range n {
					holdCall(t, withPin(e, slot, -1), pin(slot), withPin(e, slot, global), true)
					holdNot(t, withPin(e, slot, global), pin(slot))
					holdNot(t, withPin(e, slot, max(global-1, 0)), pin(slot))
				}
			}
		}
	}
}

// TestUnpin unpins slots that are unpinned, and such as are pinned in the present epoch or in the one before it.
func TestUnpin(t *testing.T) {
	for _, global := range globals() {
		for n := 1; n <= api.MaxQueues; n++ {
			for _, e := range samples(global, n) {
				for slot := range n {
					holdNot(t, withPin(e, slot, -1), unpin(slot))
					holdCall(t, withPin(e, slot, global), unpin(slot), withPin(e, slot, -1), true)
					holdCall(t, withPin(e, slot, max(global-1, 0)), unpin(slot), withPin(e, slot, -1), true)
				}
			}
		}
	}
}

// TestStrangers pins and unpins slots that epochs do not have, with all slots unpinned and with all pinned too.
func TestStrangers(t *testing.T) {
	for _, global := range []int{0, 1, 2, most} {
		for n := 1; n <= api.MaxQueues; n++ {
			all := append(samples(global, n), of(global, slices.Repeat([]int{global}, n)...))
			for _, e := range all {
				for _, slot := range strangers(n) {
					holdNot(t, e, pin(slot), unpin(slot))
				}
			}
		}
	}
}

// TestRetire retires zones that are not retired, with none retired and with several.
func TestRetire(t *testing.T) {
	zones := slices.Concat([]int{0, 1, 2, 30, 32, 33}, above)
	for _, global := range globals() {
		for n := 1; n <= api.MaxQueues; n++ {
			for _, e := range samples(global, n) {
				for _, zone := range zones {
					holdCall(t, e, retire(zone), plus(e, in(zone, global)), true)
				}
				holdNot(t, e, retire(-1), retire(-2), retire(math.MinInt))
			}
		}
		for _, count := range []int{1, 2, 31, 32, 33, 300} { // there is no greatest number of them
			e := with(mixed(global, 2), crowd(global, count)...)
			holdCall(t, e, retire(0), plus(e, in(0, global)), true)
			holdCall(t, e, retire(math.MaxInt), plus(e, in(math.MaxInt, global)), true)
		}
	}
}

// TestRetireAgain retires zones that are retired: the first, a middle and the last one, in each epoch.
func TestRetireAgain(t *testing.T) {
	for _, global := range globals() {
		for _, count := range []int{1, 2, 3, 7, 40} {
			e := with(mixed(global, 2), crowd(global, count)...)
			for _, i := range ends(count) {
				for _, zone := range []int{0, 1, e.Zones[i].Zone, 1 << 62, math.MaxInt} {
					for _, when := range []int{0, max(global-2, 0), max(global-1, 0), global} {
						holdNot(t, withZone(e, i, in(zone, when)), retire(zone))
					}
				}
			}
			for _, r := range e.Zones {
				holdNot(t, e, retire(r.Zone))
				holdCall(t, e, retire(r.Zone+1), plus(e, in(r.Zone+1, global)), true)
			}
		}
	}
}

// TestRetireNegatives retires numbers that no zone has, with no zone retired and with several.
func TestRetireNegatives(t *testing.T) {
	for _, global := range globals() {
		for _, e := range samples(global, 2) {
			for _, zone := range negatives() {
				holdNot(t, e, retire(zone), forget(zone))
			}
		}
	}
}

// TestAdvance has no pins, pins in the present epoch, and one pin in the epoch before it, at each slot.
func TestAdvance(t *testing.T) {
	for _, global := range globals() {
		for n := 1; n <= api.MaxQueues; n++ {
			for _, zones := range [][]api.Retired{nil, crowd(global, 1), crowd(global, 6)} {
				for _, pins := range lists(n, []int{-1, global}) {
					if len(pins) < n {
						continue
					}
					e := with(of(global, pins...), zones...)
					if global == most {
						holdNot(t, e, advance())
						continue
					}
					holdCall(t, e, advance(), withGlobal(e, global+1), true)
					if global == 0 {
						continue
					}
					for slot := range n {
						holdNot(t, withPin(e, slot, global-1), advance())
					}
				}
			}
		}
	}
}

// TestAdvanceToTheEnd advances epoch by epoch up to the greatest one.
func TestAdvanceToTheEnd(t *testing.T) {
	e := with(of(most-3, -1, most-3), in(4, most-3))
	holdCall(t, e, advance(), withGlobal(e, most-2), true)
	holdNot(t, withGlobal(e, most-2), advance())
	e = free(most-3, 2)
	for global := most - 3; global < most; global++ {
		holdCall(t, e, advance(), free(global+1, 2), true)
		e, _ = epoch.Advance(e)
	}
	holdNot(t, e, advance())
}

// TestReady has retired zones in any order of their epochs. The zone is at once its number and its place in the list.
func TestReady(t *testing.T) {
	for _, c := range []struct {
		global int
		epochs []int
		ready  int // -1: none
	}{
		{0, nil, -1}, {1, nil, -1}, {2, nil, -1}, {most, nil, -1},
		{0, []int{0}, -1}, {1, []int{0}, -1}, {1, []int{1}, -1}, {1, []int{0, 1, 0}, -1},
		{2, []int{0}, 0}, {2, []int{1}, -1}, {2, []int{2}, -1}, {2, []int{1, 2, 0}, 2}, {2, []int{2, 1, 1}, -1},
		{3, []int{0}, 0}, {3, []int{1}, 0}, {3, []int{2, 3}, -1}, {3, []int{2, 1, 0}, 1}, {3, []int{3, 2, 0, 1}, 2},
		{9, []int{9, 8, 9, 8}, -1}, {9, []int{9, 8, 7, 0}, 2}, {9, []int{8, 9, 6, 7}, 2}, {9, []int{7, 6, 0}, 0},
		{9, []int{9, 9, 9, 9, 9, 0}, 5}, {9, []int{8, 8, 8, 8, 8, 7}, 5}, {9, []int{0, 9, 8}, 0}, {9, []int{8, 5, 6}, 1},
		{most, []int{most, most - 1}, -1}, {most, []int{most, most - 1, most - 2}, 2}, {most, []int{most - 1, 0}, 1},
		{1 << 32, []int{1 << 32, 1<<32 - 1, 1<<32 - 2}, 2}, {1<<32 + 1, []int{1<<32 + 1, 1 << 32, 1}, 2},
	} {
		for n := 1; n <= api.MaxQueues; n++ { // whatever the pins are
			for _, e := range []api.Epochs{free(c.global, n), mixed(c.global, n), of(c.global, slices.Repeat([]int{c.global}, n)...)} {
				for i, when := range c.epochs {
					e = plus(e, in(i, when))
				}
				holdReady(t, e, max(c.ready, 0), c.ready >= 0)
				holdForgets(t, e, c.ready)
			}
		}
	}
}

// holdForgets expects that only one retired zone can be forgotten: the one at an index, or none with -1.
func holdForgets(t *testing.T, e api.Epochs, ready int) {
	t.Helper()
	for i, r := range e.Zones {
		if i == ready {
			holdCall(t, e, forget(r.Zone), without(e, i), true)
		} else {
			holdNot(t, e, forget(r.Zone))
		}
	}
	holdNot(t, e, forget(len(e.Zones)), forget(len(e.Zones)+1), forget(-1), forget(math.MinInt), forget(math.MaxInt))
}

// TestReadyOfAnyZone has zones with small and very great numbers, at each place among others that are not ready.
func TestReadyOfAnyZone(t *testing.T) {
	for _, global := range globals()[2:] {
		for _, zone := range []int{0, 1, 31, 32, 1 << 32, 1 << 62, math.MaxInt} {
			for i := range 4 {
				l := []api.Retired{in(40, global), in(41, global-1), in(42, global)}
				e := with(free(global, 2), slices.Insert(l, i, in(zone, global-2))...)
				holdReady(t, e, zone, true)
				holdCall(t, e, forget(zone), without(e, i), true)
				holdNot(t, e, forget(zone+1), forget(zone-1), forget(-zone-1), forget(40), forget(41), forget(42))
				e = withZone(e, i, in(zone, global-1))
				holdReady(t, e, 0, false)
				holdNot(t, e, forget(zone), forget(40), forget(41), forget(42), forget(0))
			}
		}
	}
}

// TestForgetOfNone forgets the zone 0 where no zone is ready, as Ready's 0 is no zone then.
func TestForgetOfNone(t *testing.T) {
	for _, global := range globals() {
		for n := 1; n <= api.MaxQueues; n++ {
			for _, e := range []api.Epochs{free(global, n), mixed(global, n)} {
				for _, zones := range [][]api.Retired{nil, {in(0, global)}, {in(0, max(global-1, 0))}, {in(5, global), in(0, global)}} {
					holdReady(t, with(e, zones...), 0, false)
					holdNot(t, with(e, zones...), forget(0), forget(5))
				}
			}
		}
	}
}

// TestForgetAll forgets zone by zone what is ready, in the order in which it was retired.
func TestForgetAll(t *testing.T) {
	e := with(of(6, 5, -1), in(9, 4), in(2, 5), in(0, 0), in(7, 6), in(3, 4), in(8, 3), in(1, 5))
	for _, zone := range []int{9, 0, 3, 8} {
		holdReady(t, e, zone, true)
		for other := range 11 {
			if other != zone {
				holdNot(t, e, forget(other))
			}
		}
		i := slices.IndexFunc(e.Zones, func(r api.Retired) bool { return r.Zone == zone })
		holdCall(t, e, forget(zone), without(e, i), true)
		e, _ = epoch.Forget(e, zone)
	}
	holdReady(t, e, 0, false)
	if want := with(of(6, 5, -1), in(2, 5), in(7, 6), in(1, 5)); !same(e, want) {
		t.Errorf("%v, want %v", e, want)
	}
}

// TestRetireForgotten retires a zone again that was forgotten.
func TestRetireForgotten(t *testing.T) {
	e := with(free(4, 1), in(6, 2), in(5, 3))
	holdNot(t, e, retire(6))
	e, ok := epoch.Forget(e, 6)
	holdCall(t, e, retire(6), with(free(4, 1), in(5, 3), in(6, 4)), ok)
}
