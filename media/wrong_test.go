package media_test

import (
	"math"
	"strings"
	"testing"

	"zoneappend/api"
	"zoneappend/zns"
)

// refuse expects the error of a device that is not valid from both functions that return one.
func refuse(t *testing.T, d api.Device, err api.Errno) {
	t.Helper()
	if e := zns.Check(d); e != err {
		t.Fatalf("Check of %s: %d, want %d", text(d), e, err)
	}
	holdSync(t, d, api.Device{}, err)
	for _, keep := range [][]int{nil, {}, {0}, {1, 1, 1, 1}, {math.MinInt, math.MaxInt}, {3, 3, 3, 3, 3, 3}} {
		holdCrash(t, d, keep, api.Device{}, err)
	}
}

// right is a valid device with four zones of three sectors.
func right() api.Device {
	d := device(3, zone(opened, 1, "ab"), zone(empty, 0, ""), zone(shut, 0, "cd"), zone(full, 3, "efg"))
	d.MaxOpen, d.MaxActive = 2, 3
	return d
}

// numbered is the right device with other numbers.
func numbered(size, open, active int) api.Device {
	d := right()
	d.Size, d.MaxOpen, d.MaxActive = size, open, active
	return d
}

// wrongNumbers are devices whose numbers are not as they may be.
func wrongNumbers() []api.Device {
	l := []api.Device{
		{},
		{Size: 3, MaxOpen: 1, MaxActive: 1},
		{Size: 3, Zones: []api.Zone{{}}},
		device(3, make([]api.Zone, 33)...),
		device(3, make([]api.Zone, 1000)...),
		numbered(2, 2, 3),
		numbered(0, 2, 3),
		numbered(65, 2, 3),
		numbered(3, 0, 3),
		numbered(3, 0, 0),
		numbered(3, 4, 3),
		numbered(3, 2, 1),
		numbered(3, 2, 5),
		numbered(3, 5, 5),
	}
	for _, n := range great {
		l = append(l, numbered(n, 2, 3), numbered(3, n, 3), numbered(3, 2, n), numbered(3, n, n), numbered(n, n, n))
	}
	return l
}

// wrongZones are zones that no valid device with zones of three sectors has.
func wrongZones() []api.Zone {
	l := []api.Zone{
		// A sector in an empty zone and in an offline one.
		zone(empty, 0, "x"), zone(empty, 1, "x"), zone(offline, 0, "x"), zone(offline, 1, "x"), zone(offline, 3, "xyz"),

		// As many sectors as the zone has, and not full.
		zone(opened, 0, "xyz"), zone(opened, 3, "xyz"), zone(held, 0, "xyz"), zone(held, 3, "xyz"), zone(shut, 0, "xyz"), zone(shut, 3, "xyz"),

		// Full, and not all durable.
		zone(full, 0, "x"), zone(full, 1, "xy"), zone(full, 0, "xyz"), zone(full, 1, "xyz"), zone(full, 2, "xyz"),

		// Too many sectors.
		zone(full, 4, "wxyz"), zone(full, 3, "wxyz"), zone(opened, 0, "wxyz"), zone(full, 65, strings.Repeat("x", 65)),

		// Durable above the pointer.
		zone(empty, 1, ""), zone(offline, 1, ""), zone(full, 1, ""), zone(full, 3, "xy"), zone(opened, 1, ""), zone(opened, 3, "xy"),
		zone(held, 2, "x"), zone(shut, 2, "x"), zone(shut, 3, "xy"),
	}
	for _, state := range []int{empty, opened, held, shut, full, offline} {
		for _, durable := range great {
			l = append(l, zone(state, durable, ""))
		}
	}
	for _, state := range append([]int{6, 7, 256, 257}, great...) {
		l = append(l, zone(state, 0, ""), zone(state, 1, "x"))
	}
	for _, n := range []int{0, 1, 39, 41, 80} {
		for at := range 3 {
			f, s := zone(full, 3, "xyz"), zone(shut, 1, "xy")
			f.Sectors[at] = strings.Repeat("s", n)
			s.Sectors[at%2] = strings.Repeat("s", n)
			l = append(l, f, s)
		}
	}
	return l
}

// tooMany are devices with more open or active zones than there may be.
func tooMany() []api.Device {
	var l []api.Device
	for _, c := range []struct {
		open, active int
		states       []int
	}{
		{1, 4, []int{opened, opened}},
		{1, 4, []int{held, held}},
		{1, 4, []int{opened, shut, held}},
		{2, 3, []int{opened, held, opened}},
		{3, 4, []int{opened, held, held, opened}},
		{1, 1, []int{shut, shut}},
		{1, 1, []int{opened, empty, shut}},
		{1, 1, []int{held, full, full, shut}},
		{2, 3, []int{shut, opened, held, shut}},
		{1, 3, []int{shut, shut, shut, shut}},
	} {
		d := device(3, make([]api.Zone, 4)...)
		d.MaxOpen, d.MaxActive = c.open, c.active
		for i, state := range c.states {
			d.Zones[i].State = state
		}
		l = append(l, d)
	}
	return l
}

func TestWrongNumbers(t *testing.T) {
	valid(t, right())
	for _, d := range wrongNumbers() {
		refuse(t, d, api.ErrConfig)
	}
}

func TestWrongZones(t *testing.T) {
	for _, z := range wrongZones() {
		refuse(t, device(3, z), api.ErrState)
		for at := range right().Zones {
			refuse(t, replaced(right(), at, z), api.ErrState)
		}
	}
}

func TestTooManyZones(t *testing.T) {
	for _, d := range tooMany() {
		refuse(t, d, api.ErrState)
	}
}

// TestWrongNumbersAndZones expects the error of the numbers, whatever is wrong with the zones.
func TestWrongNumbersAndZones(t *testing.T) {
	for _, z := range wrongZones() {
		for _, d := range wrongNumbers() {
			if len(d.Zones) > 0 && len(d.Zones) < 100 {
				refuse(t, replaced(d, len(d.Zones)-1, z), api.ErrConfig)
			}
		}
	}
}
