package epoch_test

import (
	"slices"

	"zoneappend/api"
)

// What the chapter says, read once more: what may be is listed, and what a call changes is written with lists cut in two.

// expectPins are the pins that a slot may have.
func expectPins(global int) []int {
	switch global {
	case 0:
		return []int{-1, 0}
	case 1:
		return []int{-1, 0, 1}
	}
	return []int{-1, global - 1, global}
}

// expectZones tells whether zones may be retired.
func expectZones(global int, l []api.Retired) bool {
	var numbers []int
	for _, r := range l {
		if r.Zone <= -1 || r.Epoch <= -1 || global < r.Epoch {
			return false
		}
		numbers = append(numbers, r.Zone)
	}
	slices.Sort(numbers)
	return len(slices.Compact(numbers)) == len(l)
}

// expectValid tells whether epochs are valid.
func expectValid(e api.Epochs) bool {
	if n := len(e.Pins); n != 1 && n != 2 && n != 3 && n != 4 {
		return false
	}
	if e.Global <= -1 || e.Global > 1<<40 {
		return false
	}
	may := expectPins(e.Global)
	return !slices.ContainsFunc(e.Pins, func(p int) bool { return !slices.Contains(may, p) }) && expectZones(e.Global, e.Zones)
}

// pinned is epochs in which only one slot has another pin.
func pinned(e api.Epochs, slot, p int) api.Epochs {
	e.Pins = slices.Concat(e.Pins[:slot], []int{p}, e.Pins[slot+1:])
	return e
}

// expectPin is what Pin returns.
func expectPin(e api.Epochs, slot int) (api.Epochs, bool) {
	if !expectValid(e) || slot < 0 || slot > len(e.Pins)-1 || e.Pins[slot] >= 0 {
		return e, false
	}
	return pinned(e, slot, e.Global), true
}

// expectUnpin is what Unpin returns.
func expectUnpin(e api.Epochs, slot int) (api.Epochs, bool) {
	if !expectValid(e) || slot < 0 || slot > len(e.Pins)-1 || e.Pins[slot] < 0 {
		return e, false
	}
	return pinned(e, slot, -1), true
}

// expectRetire is what Retire returns: a zone can be retired if the epochs with it are valid.
func expectRetire(e api.Epochs, zone int) (api.Epochs, bool) {
	more := plus(e, in(zone, e.Global))
	if !expectValid(e) || !expectValid(more) {
		return e, false
	}
	return more, true
}

// expectAdvance is what Advance returns: the epoch can advance if the epochs behind it are valid.
func expectAdvance(e api.Epochs) (api.Epochs, bool) {
	if !expectValid(e) || !expectValid(withGlobal(e, e.Global+1)) {
		return e, false
	}
	return withGlobal(e, e.Global+1), true
}

// expectFirst is the index of the zone that Ready returns, or -1.
func expectFirst(e api.Epochs) int {
	if !expectValid(e) {
		return -1
	}
	return slices.IndexFunc(e.Zones, func(r api.Retired) bool { return e.Global-r.Epoch > 1 })
}

// expectReady is what Ready returns.
func expectReady(e api.Epochs) (int, bool) {
	if i := expectFirst(e); i > -1 {
		return e.Zones[i].Zone, true
	}
	return 0, false
}

// expectForget is what Forget returns.
func expectForget(e api.Epochs, zone int) (api.Epochs, bool) {
	i := expectFirst(e)
	if i == -1 || slices.IndexFunc(e.Zones, func(r api.Retired) bool { return r.Zone == zone }) != i {
		return e, false
	}
	return without(e, i), true
}
