package epoch_test

import (
	"slices"
	"testing"

	"zoneappend/api"
	"zoneappend/epoch"
)

// lists are all lists of up to n elements of another one.
func lists[E any](n int, among []E) [][]E {
	all, longest := [][]E{nil}, [][]E{nil}
	for range n {
		var longer [][]E
		for _, l := range longest {
			for _, e := range among {
				longer = append(longer, append(slices.Clip(l), e))
			}
		}
		all, longest = append(all, longer...), longer
	}
	return all
}

// holdAll holds all calls of epochs, of some zones, against the second reading of the chapter.
func holdAll(t *testing.T, e api.Epochs, zones []int) {
	t.Helper()
	holdValid(t, e, expectValid(e))
	zone, ready := expectReady(e)
	holdReady(t, e, zone, ready)
	want, ok := expectAdvance(e)
	holdCall(t, e, advance(), want, ok)
	for slot := -1; slot <= len(e.Pins); slot++ {
		want, ok = expectPin(e, slot)
		holdCall(t, e, pin(slot), want, ok)
		want, ok = expectUnpin(e, slot)
		holdCall(t, e, unpin(slot), want, ok)
	}
	for _, zone := range zones {
		want, ok = expectRetire(e, zone)
		holdCall(t, e, retire(zone), want, ok)
		want, ok = expectForget(e, zone)
		holdCall(t, e, forget(zone), want, ok)
	}
}

// TestAllPins has all calls of all epochs of up to five slots, of which there may be four, with few pins.
func TestAllPins(t *testing.T) {
	valid := 0
	for global := -1; global <= 3; global++ {
		for _, pins := range lists(5, []int{-2, -1, 0, 1, 2, 3, 4}) {
			e := with(of(global, pins...), in(0, 0))
			if global == -1 { // so that nothing but Global is wrong
				e.Zones = nil
			}
			holdAll(t, e, []int{0, 1})
			if epoch.Valid(e) {
				valid++
			}
		}
	}
	// Two pins are possible in the epoch 0, three in each one of the others.
	if want := (2 + 4 + 8 + 16) + 3*(3+9+27+81); valid != want {
		t.Errorf("%d are valid, want %d", valid, want)
	}
}

// retirements are retired zones, of some zones and some epochs.
func retirements(zones, epochs []int) []api.Retired {
	var all []api.Retired
	for _, zone := range zones {
		for _, when := range epochs {
			all = append(all, in(zone, when))
		}
	}
	return all
}

// TestAllZones has all calls of all epochs of few slots with up to three retired zones of a few.
func TestAllZones(t *testing.T) {
	valid := 0
	for global := range 5 {
		for _, zones := range lists(3, retirements([]int{-1, 0, 1}, []int{-1, 0, 1, 2, 3, 4})) {
			holdAll(t, with(of(global, -1), zones...), []int{-1, 0, 1, 2})
			e := with(of(global, global, -1), zones...)
			holdAll(t, e, []int{0, 1})
			if epoch.Valid(e) {
				valid++
			}
		}
	}
	want := 0
	for n := 1; n <= 5; n++ { // n epochs: no zone, one of two, or both in any order
		want += 1 + 2*n + 2*n*n
	}
	if valid != want {
		t.Errorf("%d are valid, want %d", valid, want)
	}
}

// TestAllAtTheEnd has all calls of epochs at and behind the greatest number that an epoch may have.
func TestAllAtTheEnd(t *testing.T) {
	near := []int{0, most - 3, most - 2, most - 1, most, most + 1, most + 2}
	valid := 0
	for global := most - 1; global <= most+2; global++ {
		for _, pins := range lists(2, append([]int{-1}, near...)) {
			for _, zones := range lists(2, retirements([]int{0, 1}, near)) {
				e := with(of(global, pins...), zones...)
				holdAll(t, e, []int{0, 1, 2})
				if epoch.Valid(e) {
					valid++
				}
			}
		}
	}
	// Three pins in one slot or two; four epochs are possible in most - 1, and five in most.
	if want := (3 + 9) * ((1 + 8 + 32) + (1 + 10 + 50)); valid != want {
		t.Errorf("%d are valid, want %d", valid, want)
	}
}
