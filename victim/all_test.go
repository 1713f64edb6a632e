package victim_test

import (
	"reflect"
	"testing"

	"zoneappend/api"
	"zoneappend/victim"
)

// counted counts the zones that can be victims, and the states that have one.
type counted struct{ zones, states int }

// add holds a state against the second reading of the chapter, and counts.
func (n *counted) add(t *testing.T, x api.State) {
	t.Helper()
	holdFast(t, x, near(x)[:len(x.Device.Zones)+4]...)
	for zone := range x.Device.Zones {
		if victim.Can(x, zone) {
			n.zones++
		}
	}
	if _, ok := victim.Choose(x); ok {
		n.states++
	}
}

// hold expects what was counted.
func (n *counted) hold(t *testing.T, zones, states int) {
	t.Helper()
	if n.zones != zones || n.states != states {
		t.Errorf("%d zones in %d states, want %d in %d", n.zones, n.states, zones, states)
	}
}

// each calls use for all lists of n numbers from the least to the greatest one.
func each(l []int, least, most int, use func()) {
	if len(l) == 0 {
		use()
		return
	}
	for l[0] = least; l[0] <= most; l[0]++ {
		each(l[1:], least, most, use)
	}
}

// TestAllOfOne has all that one zone can be, while no other data zone can be a victim.
func TestAllOfOne(t *testing.T) {
	for _, zone := range []int{small.first, small.first + 2, small.last} {
		var n counted
		x := small.lively(2, nil)
		for state := -1; state <= 6; state++ {
			for live := -2; live <= 4; live++ {
				for pending := -2; pending <= 2; pending++ {
					for lanes := range 4 {
						for retired := range 3 {
							x.Device.Zones[zone].State = state
							x.Counts.Live[zone], x.Counts.Pending[zone] = live, pending
							x.Pool.Host = []int{-1, zone, -1, zone}[lanes]
							x.Pool.Cleaner = []int{-1, -1, zone, zone}[lanes]
							x.Epochs.Zones = []api.Retired{{Zone: 0}, {Zone: zone}, {Zone: zone}}[:retired]
							n.add(t, x)
						}
					}
				}
			}
		}
		n.hold(t, 2*4, 2*4) // a Live of -2 to 1, and no zone or the zone 0 retired
	}
}

// TestAllOfTwo has all that two zones can be, with few numbers.
func TestAllOfTwo(t *testing.T) {
	a, b := small.first+1, small.first+3
	var n counted
	x := small.lively(2, nil)
	for _, lanes := range [][2]int{{-1, -1}, {a, -1}, {-1, b}, {b, a}} {
		for _, retired := range [][]api.Retired{nil, {{Zone: a}}, {{Zone: b}}} {
			x.Pool.Host, x.Pool.Cleaner, x.Epochs.Zones = lanes[0], lanes[1], retired
			each(x.Counts.Live[a:a+1], 0, 2, func() {
				each(x.Counts.Live[b:b+1], 0, 2, func() {
					each(x.Counts.Pending[a:b+1], 0, 1, func() {
						for states := range 4 {
							x.Device.Zones[a].State, x.Device.Zones[b].State = 3+states%2, 3+states/2
							n.add(t, x)
						}
					})
				})
			})
		}
	}
	// Either zone: two of three Live, one of two Pending, one of two states, two of four lanes, two of three lists. What the other
	// numbers are, which are three Live, two states, and Pending of two zones, is the same to it. Then, how often it is both.
	one := 2 * 2 * 2 * (3 * 2 * 4)
	both := 2 * 2 * 2
	n.hold(t, 2*one, 2*one-both)
}

// TestAllLives has all numbers of live records of six zones, from -1 on to one more than can be.
func TestAllLives(t *testing.T) {
	var n counted
	x := small.lively(2, nil)
	each(x.Counts.Live[small.first:small.last+1], -1, 3, func() { n.add(t, x) })
	n.hold(t, 6*3*5*5*5*5*5, 5*5*5*5*5*5-2*2*2*2*2*2)
}

// TestAllFull has all sets of zones that are full, with all numbers of live records that they can have.
func TestAllFull(t *testing.T) {
	var n counted
	x := small.lively(0, nil)
	for set := range 1 << 6 {
		for i := range 6 {
			x.Device.Zones[small.first+i].State = []int{api.ZoneClosed, api.ZoneFull}[set>>i&1]
		}
		each(x.Counts.Live[small.first:small.last+1], 0, 2, func() { n.add(t, x) })
	}
	n.hold(t, 6*2*6*6*6*6*6, 6*6*6*6*6*6-4*4*4*4*4*4)
}

// TestAllLengths has lists of all lengths.
func TestAllLengths(t *testing.T) {
	var n counted
	x := small.state()
	for zones := range 12 {
		for live := range 12 {
			for pending := range 12 {
				y := x
				y.Device.Zones = x.Device.Zones[:zones]
				y.Counts = api.Counts{Live: x.Counts.Live[:live], Pending: x.Counts.Pending[:pending]}
				n.add(t, y)
			}
		}
	}
	want := 0
	for zone := small.first; zone <= small.last; zone++ {
		want += (11 - zone) * (11 - zone) * (11 - zone) // as many lengths are greater than zone
	}
	n.hold(t, want, 9*9*9)
}

// TestAllConfigs has the configurations with few numbers, whose data zones begin at different places.
func TestAllConfigs(t *testing.T) {
	for zones := range 34 {
		for size := 2; size <= 5; size++ {
			for _, blocks := range []int{0, 1, 3, 6, 12, 40} {
				c := config(zones, size, blocks, 1)
				x := shape{config(32, 5, 1, 1), 2, 31}.state()
				x.Config = c
				for zone := range x.Counts.Live {
					x.Counts.Live[zone] = zone * 7 % 5
				}
				holdExpected(t, x)
			}
		}
	}
}

// TestAllStay has the states of the other tests once more: none of the calls has changed one.
func TestAllStay(t *testing.T) {
	x := small.lively(1, map[int]int{4: 0})
	x.Pool.Free, x.Epochs.Zones = []int{2, 3}, []api.Retired{{Zone: 4}, {Zone: 5}}
	before := own(x)
	each(x.Counts.Pending[small.first:small.last+1], 0, 1, func() {
		kept := own(x)
		holdFast(t, x, small.all()...)
		if !reflect.DeepEqual(x, kept) {
			t.Fatalf("%+v\nbecame %+v", kept, x)
		}
	})
	clear(x.Counts.Pending)
	if !reflect.DeepEqual(x, before) {
		t.Fatalf("%+v\nbecame %+v", before, x)
	}
}
