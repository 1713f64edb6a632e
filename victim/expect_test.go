package victim_test

import (
	"slices"

	"zoneappend/api"
	"zoneappend/layout"
)

// What the chapter says, read once more: of all data zones that have an element in every list, those are crossed out that cannot be
// victims; what is left is sorted.

// expectVictims are the zones that can be victims, ascending.
func expectVictims(s api.State) []int {
	l, err := layout.Of(s.Config)
	if err != api.OK {
		return nil
	}
	var left [api.MaxZones]bool
	for i := range l.Data {
		left[l.First+i] = true
	}
	for _, n := range []int{len(s.Device.Zones), len(s.Counts.Live), len(s.Counts.Pending)} {
		clear(left[min(n, api.MaxZones):])
	}
	cross := func(zone int) {
		if zone >= 0 && zone < api.MaxZones {
			left[zone] = false
		}
	}
	cross(s.Pool.Host)
	cross(s.Pool.Cleaner)
	for _, r := range s.Epochs.Zones {
		cross(r.Zone)
	}
	var can []int
	for zone, there := range left {
		if !there || s.Device.Zones[zone].State != 4 || s.Counts.Pending[zone] != 0 {
			continue
		}
		if live := s.Counts.Live[zone]; live <= s.Config.Size-2 {
			can = append(can, zone)
		}
	}
	return can
}

// expectChoose is what Choose returns: the first one, if the victims are sorted.
func expectChoose(s api.State) (int, bool) {
	can := expectVictims(s)
	slices.SortStableFunc(can, func(a, b int) int {
		switch x, y := s.Counts.Live[a], s.Counts.Live[b]; {
		case x < y:
			return -1
		case x > y:
			return 1
		}
		return 0
	})
	if len(can) == 0 {
		return 0, false
	}
	return can[0], true
}

// expectDead is what Dead returns.
func expectDead(s api.State) int {
	can := expectVictims(s)
	dead := len(can) * (s.Config.Size - 1)
	for _, zone := range can {
		dead -= s.Counts.Live[zone]
	}
	return dead
}

// expectUsed is what Used returns.
func expectUsed(d api.Device, zone int) int {
	for i, z := range d.Zones {
		switch {
		case i != zone:
		case len(z.Sectors) == d.Size:
			return len(z.Sectors) - 1
		default:
			return len(z.Sectors)
		}
	}
	return 0
}
