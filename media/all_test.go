package media_test

import (
	"math"
	"slices"
	"testing"

	"zoneappend/api"
	"zoneappend/media"
	"zoneappend/zns"
)

// stays tells whether the sector at an offset of a zone stays in a power failure: read once more from the chapter, sector by sector.
func stays(z api.Zone, offset, at int, keep []int) bool {
	return offset < z.Durable || at < len(keep) && offset-z.Durable < keep[at]
}

// expectCrash is what Crash must make of a valid device.
func expectCrash(d api.Device, keep []int) api.Device {
	d.Zones = slices.Clone(d.Zones)
	for at, z := range d.Zones {
		var l []string
		for offset, s := range z.Sectors {
			if stays(z, offset, at, keep) {
				l = append(l, s)
			}
		}
		state := shut
		if len(l) == 0 {
			state = empty
		}
		if z.State == full || z.State == offline {
			state = z.State
		}
		d.Zones[at] = api.Zone{State: state, Durable: len(l), Sectors: l}
	}
	return d
}

// expectSync is what Sync must make of a valid device.
func expectSync(d api.Device) api.Device {
	d.Zones = slices.Clone(d.Zones)
	for at := range d.Zones {
		d.Zones[at].Durable = len(d.Zones[at].Sectors)
	}
	return d
}

// expectVolatile is what Volatile must return: it counts the sectors that are not durable.
func expectVolatile(d api.Device) []int {
	l := make([]int, len(d.Zones))
	for at, z := range d.Zones {
		for offset := range z.Sectors {
			if offset >= z.Durable {
				l[at]++
			}
		}
	}
	return l
}

// kinds are all zones of three sectors that a device may have, with these letters.
func kinds(letters string) []api.Zone {
	var l []api.Zone
	for _, state := range []int{empty, opened, held, shut, full, offline} {
		for pointer := range 4 {
			for durable := range pointer + 1 {
				z := zone(state, durable, letters[:pointer])
				if zns.Check(device(3, z)) == api.OK {
					l = append(l, z)
				}
			}
		}
	}
	return l
}

// lists are all lists of at most n of the numbers.
func lists(n int, numbers ...int) [][]int {
	l := [][]int{nil}
	for from := 0; n > 0; n-- {
		to := len(l)
		for ; from < to; from++ {
			for _, k := range numbers {
				l = append(l, append(slices.Clip(l[from]), k))
			}
		}
	}
	return l
}

// holdAll holds all calls of a valid device, and the consequences, against what is expected.
func holdAll(t *testing.T, d api.Device, lists [][]int) {
	t.Helper()
	holdVolatile(t, d, expectVolatile(d)...)
	synced := expectSync(d)
	valid(t, synced)
	holdSync(t, d, synced, api.OK)
	holdVolatile(t, synced, make([]int, len(d.Zones))...)
	for _, keep := range lists {
		want := expectCrash(d, keep)
		valid(t, want)
		holdCrash(t, d, keep, want, api.OK)
		holdCrash(t, want, keep, want, api.OK)
		holdSync(t, want, want, api.OK)
		holdVolatile(t, want, make([]int, len(d.Zones))...)
		holdCrash(t, synced, keep, ended(d), api.OK)
	}
}

// ended is a device with all of its sectors, and none of its zones open: a crash behind a flush leads there.
func ended(d api.Device) api.Device {
	d.Zones = slices.Clone(d.Zones)
	for at, z := range d.Zones {
		z.Durable = len(z.Sectors)
		if z.State == opened || z.State == held || z.State == shut {
			z.State = shut
			if z.Durable == 0 {
				z.State = empty
			}
		}
		d.Zones[at] = z
	}
	return d
}

func TestAllDevicesOfOneZone(t *testing.T) {
	all := lists(2, math.MinInt, -2, -1, 0, 1, 2, 3, 4, math.MaxInt)
	for _, z := range kinds("abc") {
		holdAll(t, device(3, z), all)
	}
}

func TestAllDevicesOfTwoZones(t *testing.T) {
	all := append(lists(2, -1, 0, 1, 2, 3), []int{2, 1, 3}, []int{0, 0, 0, 0}, []int{math.MaxInt, math.MinInt, 1})
	for _, a := range kinds("abc") {
		for _, b := range kinds("def") {
			holdAll(t, device(3, a, b), all)
		}
	}
}

func TestAllDevicesOfThreeZones(t *testing.T) {
	for i, a := range kinds("abc") {
		for j, b := range kinds("def") {
			for k, c := range kinds("ghi") {
				n := i + j + k
				holdAll(t, device(3, a, b, c), [][]int{nil, {1, 1, 1}, {n%4 - 1, n % 3, n % 5, n}})
			}
		}
	}
}

// TestTheGreatestDevice has 32 zones of 64 sectors, and each number of sectors that stay.
func TestTheGreatestDevice(t *testing.T) {
	letters := "abcdefghijklmnopqrstuvwxyzABCDEFGHIJKLMNOPQRSTUVWXYZ0123456789+-"
	d := device(api.MaxSize, make([]api.Zone, api.MaxZones)...)
	d.Zones[0] = zone(full, 64, letters)
	d.Zones[31] = zone(full, 63, letters[:63])
	for at := 1; at < 31; at++ {
		d.Zones[at] = zone([]int{opened, held, shut}[at%3], at, letters[:63])
	}
	var all [][]int
	for k := range 66 {
		keep := make([]int, 40)
		for at := range keep {
			keep[at] = k - at%2
		}
		all = append(all, keep, keep[:k%33])
	}
	holdAll(t, d, all)
	got, e := media.Crash(d, slices.Repeat([]int{32}, 32))
	if e != api.OK {
		t.Fatal(e)
	}
	for at := 1; at < 31; at++ {
		if n := min(at+32, 63); len(got.Zones[at].Sectors) != n || got.Zones[at].Durable != n {
			t.Errorf("the zone %d has %d sectors, want %d", at, len(got.Zones[at].Sectors), n)
		}
	}
}
