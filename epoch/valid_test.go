package epoch_test

import (
	"math"
	"slices"
	"testing"

	"zoneappend/api"
	"zoneappend/epoch"
)

// made is epochs that New has made.
func made(t *testing.T, slots int) api.Epochs {
	t.Helper()
	e, err := epoch.New(slots)
	if err != api.OK || !same(e, free(0, slots)) {
		t.Fatalf("New(%d): %v, %d", slots, e, err)
	}
	return e
}

// globals are numbers that an epoch may have.
func globals() []int { return []int{0, 1, 2, 3, 7, 255, 256, 1 << 32, most - 1, most} }

// mixed is epochs with n slots, of which no two that follow each other have the same pin where there are several.
func mixed(global, n int) api.Epochs {
	return of(global, slices.Repeat([]int{global, -1, max(global-1, 0), global}, n/4+1)[:n]...)
}

// crowd is n zones that were retired at most in an epoch, neither in the order of their numbers nor in that of their epochs.
func crowd(global, n int) []api.Retired {
	epochs := []int{global, max(global-2, 0), max(global-1, 0), 0, global / 2}
	var l []api.Retired
	for i := range n {
		zone := 3 + 14*i
		if i%2 == 1 {
			zone = 10 + 14*(n-i)
		}
		l = append(l, in(zone, epochs[i%5]))
	}
	return l
}

// samples are valid epochs with n slots: unpinned and pinned ones, without retired zones and with some.
func samples(global, n int) []api.Epochs {
	return []api.Epochs{free(global, n), mixed(global, n), with(mixed(global, n), crowd(global, 6)...),
		with(of(global, slices.Repeat([]int{max(global-1, 0)}, n)...), crowd(global, 3)...)}
}

func TestNew(t *testing.T) {
	for n := 1; n <= api.MaxQueues; n++ {
		e := made(t, n)
		holdValid(t, e, true)
		holdReady(t, e, 0, false)
		holdCall(t, e, advance(), free(1, n), true)
		holdCall(t, e, retire(0), with(e, in(0, 0)), true)
		holdNot(t, e, forget(0), pin(-1), pin(n), unpin(-1), unpin(n))
		for slot := range n {
			holdCall(t, e, pin(slot), withPin(e, slot, 0), true)
			holdNot(t, e, unpin(slot))
		}
	}
}

// TestNewOfNoSlots has numbers of slots that epochs cannot have.
func TestNewOfNoSlots(t *testing.T) {
	for _, n := range slices.Concat([]int{0, 5, 6, 8, 9, 16, 32}, above, negatives()) {
		if e, err := epoch.New(n); err != api.ErrRange || !same(e, api.Epochs{}) {
			t.Errorf("New(%d): %v, %d", n, e, err)
		}
	}
}

// TestNewIsNew writes into what New returned, as nobody should: what it returns later does not change.
func TestNewIsNew(t *testing.T) {
	for n := 1; n <= api.MaxQueues; n++ {
		e := made(t, n)
		for slot := range n {
			e.Pins[slot] = 0
		}
		made(t, n)
	}
}

func TestValid(t *testing.T) {
	for _, global := range globals() {
		for n := 1; n <= api.MaxQueues; n++ {
			for _, e := range samples(global, n) {
				holdValid(t, e, true)
			}
			for _, zones := range []int{1, 2, 32, 33, 300} { // as many as there are
				holdValid(t, with(mixed(global, n), crowd(global, zones)...), true)
			}
		}
	}
}

// TestTooFewOrTooMany has epochs with no slots, and with more than there may be.
func TestTooFewOrTooMany(t *testing.T) {
	refuse(t, api.Epochs{})
	for _, global := range globals() {
		refuse(t, of(global))
		refuse(t, with(of(global), crowd(global, 6)...))
		for _, n := range []int{5, 6, 8, 9, 255, 256, 257, 260} {
			for _, e := range samples(global, n) {
				refuse(t, e)
			}
		}
	}
}

// TestWrongGlobal has an epoch that there cannot be, with pins and retired zones that would be right for it.
func TestWrongGlobal(t *testing.T) {
	for n := 1; n <= api.MaxQueues; n++ {
		for _, global := range negatives() {
			refuse(t, free(global, n))
		}
		for _, global := range []int{most + 1, most + 2, 2 * most, 1 << 62, math.MaxInt - 1, math.MaxInt} {
			refuse(t, free(global, n))
			refuse(t, mixed(global, n))
			refuse(t, with(free(global, n), in(0, 0)))
			refuse(t, with(free(global, n), crowd(most, 6)...))
			refuse(t, with(mixed(global, n), crowd(global, 6)...))
		}
	}
}

// TestPins has each pin that a slot may have, and those that it cannot have, at the first, a middle and the last slot.
func TestPins(t *testing.T) {
	for _, c := range []struct {
		global       int
		right, wrong []int
	}{
		{0, []int{-1, 0}, []int{1, 2, most}},
		{1, []int{-1, 0, 1}, []int{2, 3, most}},
		{2, []int{-1, 1, 2}, []int{0, 3, 4}},
		{3, []int{-1, 2, 3}, []int{0, 1, 4, 5}},
		{1 << 32, []int{-1, 1<<32 - 1, 1 << 32}, []int{0, 1, 1<<32 - 2, 1<<32 + 1}},
		{most - 1, []int{-1, most - 2, most - 1}, []int{0, most - 3, most}},
		{most, []int{-1, most - 1, most}, []int{0, most - 2, most + 1}},
	} {
		wrong := slices.Concat(c.wrong, negatives()[1:], []int{1 << 50, math.MaxInt - 1, math.MaxInt})
		for n := 1; n <= api.MaxQueues; n++ {
			for _, e := range samples(c.global, n) {
				for _, slot := range ends(n) {
					for _, p := range c.right {
						holdValid(t, withPin(e, slot, p), true)
					}
					for _, p := range wrong {
						refuse(t, withPin(e, slot, p))
					}
				}
			}
		}
	}
}

// TestZones has each Epoch and each Zone that a retired zone may have, and those that it cannot have, at the first, a middle
// and the last place.
func TestZones(t *testing.T) {
	for _, global := range globals() {
		for _, n := range []int{1, 2, 3, 7, 40} {
			e := with(mixed(global, 3), crowd(global, n)...)
			for _, i := range ends(n) {
				zone, when := e.Zones[i].Zone, e.Zones[i].Epoch
				for _, right := range []int{0, global, max(global-1, 0), max(global-2, 0)} {
					holdValid(t, withZone(e, i, in(zone, right)), true)
				}
				for _, wrong := range slices.Concat(negatives(), []int{global + 1, global + 2, math.MaxInt - 1, math.MaxInt}) {
					refuse(t, withZone(e, i, in(zone, wrong)))
				}
				for _, right := range []int{0, 1, 2, 1 << 32, 1 << 62, math.MaxInt - 1, math.MaxInt} {
					holdValid(t, withZone(e, i, in(right, when)), true)
				}
				for _, wrong := range negatives() {
					refuse(t, withZone(e, i, in(wrong, when)))
				}
			}
		}
	}
}

// TestTwice has two retired zones with the same Zone, side by side and far apart, in one epoch and in two.
func TestTwice(t *testing.T) {
	for _, global := range []int{0, 1, 2, 9, most} {
		for _, n := range []int{2, 3, 6, 40} {
			e := with(mixed(global, 2), crowd(global, n)...)
			for _, i := range ends(n) {
				for _, j := range slices.Concat(ends(n), []int{min(i+1, n-1)}) {
					if i == j {
						continue
					}
					for _, zone := range []int{0, 1, e.Zones[i].Zone, 1 << 62, math.MaxInt} {
						for _, when := range []int{0, global / 2, global} {
							once := withZone(e, i, in(zone, when))
							holdValid(t, once, true)
							refuse(t, withZone(once, j, in(zone, when)))
							refuse(t, withZone(once, j, in(zone, e.Zones[j].Epoch)))
						}
					}
				}
			}
		}
	}
}

// TestAllTwice has two of six retired zones with the same Zone at any places.
func TestAllTwice(t *testing.T) {
	e := with(free(4, 1), in(5, 0), in(4, 1), in(3, 2), in(2, 3), in(1, 4), in(0, 4))
	holdValid(t, e, true)
	for i := range 6 {
		for j := range 6 {
			if i != j {
				refuse(t, withZone(e, i, in(e.Zones[j].Zone, e.Zones[i].Epoch)))
			}
		}
	}
}
