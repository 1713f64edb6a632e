package epoch_test

import (
	"math"
	"slices"
	"testing"

	"zoneappend/api"
	"zoneappend/epoch"
)

// most is the greatest number that an epoch may have.
const most = api.MaxVersion

// above and below are numbers far from every limit. The former ones are no slots, the latter ones no slots and no zones.
var (
	above = []int{255, 256, 257, 1<<31 - 1, 1<<32 - 1, 1 << 32, 1<<32 + 1, most, most + 1, 1 << 62, math.MaxInt - 1, math.MaxInt}
	below = []int{-5, -255, -256, -257, -1 << 32, 1 - 1<<32, -1 << 40, -1 << 62, math.MinInt + 1, math.MinInt}
)

// negatives are numbers that no zone has.
func negatives() []int { return slices.Concat([]int{-1, -2, -3, -4}, below) }

// ends are the indices of the first, a middle and the last element of a list of n.
func ends(n int) []int { return slices.Compact([]int{0, n / 2, n - 1}) }

// strangers are numbers that are no slot of epochs with n slots. Some are one in their lowest bits.
func strangers(n int) []int {
	return slices.Concat([]int{-1, -2, -n, n, n + 1, 4, 5, 8}, above, below)
}

// of is epochs without retired zones.
func of(global int, pins ...int) api.Epochs { return api.Epochs{Global: global, Pins: pins} }

// free is epochs with n slots, all unpinned.
func free(global, n int) api.Epochs { return of(global, slices.Repeat([]int{-1}, n)...) }

// with is epochs that have these retired zones.
func with(e api.Epochs, zones ...api.Retired) api.Epochs {
	e.Zones = zones
	return e
}

// in is a zone that was retired in an epoch.
func in(zone, epoch int) api.Retired { return api.Retired{Zone: zone, Epoch: epoch} }

// withGlobal is epochs with another Global.
func withGlobal(e api.Epochs, global int) api.Epochs {
	e.Global = global
	return e
}

// withPin is epochs with another pin of a slot.
func withPin(e api.Epochs, slot, pin int) api.Epochs {
	e = copied(e)
	e.Pins[slot] = pin
	return e
}

// withZone is epochs with another retired zone at an index.
func withZone(e api.Epochs, i int, r api.Retired) api.Epochs {
	e = copied(e)
	e.Zones[i] = r
	return e
}

// plus is epochs with one more retired zone behind the others.
func plus(e api.Epochs, r api.Retired) api.Epochs {
	e.Zones = slices.Concat(e.Zones, []api.Retired{r})
	return e
}

// without is epochs without the retired zone at an index.
func without(e api.Epochs, i int) api.Epochs {
	e.Zones = slices.Delete(slices.Clone(e.Zones), i, i+1)
	return e
}

// copied is epochs of their own that are equal.
func copied(e api.Epochs) api.Epochs {
	return api.Epochs{Global: e.Global, Pins: slices.Clone(e.Pins), Zones: slices.Clone(e.Zones)}
}

// same tells whether two epochs are equal.
func same(a, b api.Epochs) bool {
	return a.Global == b.Global && slices.Equal(a.Pins, b.Pins) && slices.Equal(a.Zones, b.Zones)
}

// call is a call that makes epochs of epochs. N is the slot or the zone.
type call struct {
	name string
	n    int
	do   func(e api.Epochs, n int) (api.Epochs, bool)
}

func pin(slot int) call    { return call{"Pin", slot, epoch.Pin} }
func unpin(slot int) call  { return call{"Unpin", slot, epoch.Unpin} }
func retire(zone int) call { return call{"Retire", zone, epoch.Retire} }
func forget(zone int) call { return call{"Forget", zone, epoch.Forget} }
func advance() call {
	return call{"Advance", 0, func(e api.Epochs, _ int) (api.Epochs, bool) { return epoch.Advance(e) }}
}

// calls are calls of slots and zones, and Advance.
func calls(slots, zones []int) []call {
	all := []call{advance()}
	for _, slot := range slots {
		all = append(all, pin(slot), unpin(slot))
	}
	for _, zone := range zones {
		all = append(all, retire(zone), forget(zone))
	}
	return all
}

// holdStay expects that epochs, and all that is before and behind their lists in memory, are behind a call as they were.
func holdStay(t *testing.T, e api.Epochs, use func(e api.Epochs)) {
	t.Helper()
	pins := slices.Concat([]int{-1}, e.Pins, []int{-1, 3, -1})
	zones := slices.Concat([]api.Retired{in(70, 0)}, e.Zones, []api.Retired{in(71, 0), in(72, 1)})
	whole := api.Epochs{Global: e.Global, Pins: pins, Zones: zones}
	before := copied(whole)
	given := api.Epochs{Global: e.Global, Pins: pins[1 : 1+len(e.Pins)], Zones: zones[1 : 1+len(e.Zones)]}
	use(given)
	if !same(whole, before) || !same(given, e) {
		t.Fatalf("%v\nbecame %v", before, whole)
	}
	if e.Pins == nil || e.Zones == nil {
		use(e)
	}
}

// holdCall expects what a call returns.
func holdCall(t *testing.T, e api.Epochs, c call, want api.Epochs, done bool) {
	t.Helper()
	holdStay(t, e, func(e api.Epochs) {
		t.Helper()
		if got, ok := c.do(e, c.n); !same(got, want) || ok != done {
			t.Fatalf("%s of %d, %v\n= %v, %t\nwant %v, %t", c.name, c.n, e, got, ok, want, done)
		}
	})
}

// holdNot expects that calls return the epochs as they are and false.
func holdNot(t *testing.T, e api.Epochs, all ...call) {
	t.Helper()
	for _, c := range all {
		holdCall(t, e, c, e, false)
	}
}

// holdValid expects what Valid says of epochs.
func holdValid(t *testing.T, e api.Epochs, want bool) {
	t.Helper()
	holdStay(t, e, func(e api.Epochs) {
		t.Helper()
		if epoch.Valid(e) != want {
			t.Fatalf("Valid of %v: %t, want %t", e, !want, want)
		}
	})
}

// holdReady expects what Ready returns.
func holdReady(t *testing.T, e api.Epochs, zone int, done bool) {
	t.Helper()
	holdStay(t, e, func(e api.Epochs) {
		t.Helper()
		if got, ok := epoch.Ready(e); got != zone || ok != done {
			t.Fatalf("Ready of %v: %d, %t, want %d, %t", e, got, ok, zone, done)
		}
	})
}

// refuse expects that epochs are not valid: no zone is ready, and every call returns them as they are.
func refuse(t *testing.T, e api.Epochs) {
	t.Helper()
	holdValid(t, e, false)
	holdReady(t, e, 0, false)
	zones := []int{-1, 0, 1, 20, math.MinInt, math.MaxInt}
	for _, r := range e.Zones[:min(len(e.Zones), 9)] {
		zones = append(zones, r.Zone)
	}
	holdNot(t, e, calls(slices.Concat([]int{-1, len(e.Pins), math.MinInt, math.MaxInt}, []int{0, 1, 2, 3, 4}), zones)...)
}
