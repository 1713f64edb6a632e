package zns_test

import (
	"math"
	"slices"
	"strings"
	"testing"

	"zoneappend/api"
	"zoneappend/zns"
)

// great are numbers far from every limit.
var great = []int{math.MinInt, math.MinInt + 1, -1 << 32, -1, 1 << 32, 1<<32 + 1, math.MaxInt - 1, math.MaxInt}

// four is a valid device with four zones: an empty one, an open one, a closed one and a full one.
func four() api.Device {
	return device(2, 3, zone(empty, 0, ""), zone(opened, 1, "ab"), zone(shut, 0, "cd"), zone(full, 3, "efg"))
}

// expect holds what a call returns against a device and an error, and that the device that it had stays.
func expect(t *testing.T, name string, c call, d, want api.Device, err api.Errno) {
	t.Helper()
	d = roomy(d)
	before := whole(d)
	o := c.on(d)
	if o.err != err || !same(o.device, want) || o.sector != "" || err != api.OK && o.offset != 0 {
		t.Errorf("%s: %s of %s: %s, %d, %d, want %s, %d", name, c.text(), text(before), text(o.device), o.offset, o.err, text(want), err)
	}
	if !same(whole(d), before) {
		t.Errorf("%s: %s of %s: it became %s", name, c.text(), text(before), text(whole(d)))
	}
}

// refuse expects an error of a call.
func refuse(t *testing.T, name string, c call, d api.Device, err api.Errno) {
	t.Helper()
	want := d
	if c.kind == reading {
		want = api.Device{}
	}
	expect(t, name, c, d, want, err)
}

// refuseAll expects an error of a device from all functions that return one, whatever else is wrong.
func refuseAll(t *testing.T, name string, d api.Device, err api.Errno) {
	t.Helper()
	if e := zns.Check(d); e != err {
		t.Errorf("%s: Check of %s: %d, want %d", name, text(d), e, err)
	}
	for _, zone := range []int{0, 1, len(d.Zones) - 1, len(d.Zones), -1, math.MaxInt} {
		for _, kind := range []string{appending, reading, resetting, finishing, opening, closing} {
			for _, s := range []string{sector('z'), "z"} {
				refuse(t, name, call{kind, zone, 0, s}, d, err)
				refuse(t, name, call{kind, zone, 9, s}, d, err)
			}
		}
	}
}

func TestNumbersOfADevice(t *testing.T) {
	zones := append([]int{0, 1, 2, 3, 31, 32, 33, 34, 64}, great...)
	sizes := append([]int{0, 1, 2, 3, 4, 63, 64, 65, 66, 128}, great...)
	counts := append([]int{0, 1, 2, 3, 4, 31, 32, 33}, great...)
	for _, n := range zones {
		for _, size := range sizes {
			for _, open := range counts {
				for _, active := range counts {
					holdNumbers(t, n, size, open, active)
				}
			}
		}
	}
}

// holdNumbers holds New, and Check of a device that has them, against what is expected of numbers.
func holdNumbers(t *testing.T, zones, size, open, active int) {
	t.Helper()
	right := zones >= 1 && zones <= 32 && size >= 3 && size <= 64 && open >= 1 && open <= active && active <= zones
	d, e := zns.New(zones, size, open, active)
	want, err := api.Device{}, api.ErrConfig
	if right {
		want, err = api.Device{Size: size, MaxOpen: open, MaxActive: active, Zones: make([]api.Zone, zones)}, api.OK
	}
	if e != err || !same(d, want) {
		t.Fatalf("New(%d, %d, %d, %d) = %s, %d, want %s, %d", zones, size, open, active, text(d), e, text(want), err)
	}
	if zones < 0 || zones > 100 {
		return
	}
	d = api.Device{Size: size, MaxOpen: open, MaxActive: active, Zones: make([]api.Zone, zones)}
	if e := zns.Check(d); e != err {
		t.Fatalf("Check of a device with the numbers %d, %d, %d, %d: %d, want %d", zones, size, open, active, e, err)
	}
}

func TestNewKnown(t *testing.T) {
	d, e := zns.New(2, 3, 1, 2)
	if e != api.OK || d.Size != 3 || d.MaxOpen != 1 || d.MaxActive != 2 || len(d.Zones) != 2 {
		t.Fatalf("New: %s, %d", text(d), e)
	}
	for i, z := range d.Zones {
		if z.State != empty || z.Durable != 0 || len(z.Sectors) != 0 {
			t.Errorf("New: the zone %d of %s is not empty", i, text(d))
		}
	}
	other, _ := zns.New(2, 3, 1, 2)
	other.Zones[0].State = offline
	if again, _ := zns.New(2, 3, 1, 2); d.Zones[0].State != empty || again.Zones[0].State != empty {
		t.Error("two new devices have the same zones")
	}
}

// spoil makes a device wrong in one way.
type spoil struct {
	name  string
	apply func(*api.Device)
}

// wrongNumbers are the ways in which the numbers of a device can be wrong.
func wrongNumbers() []spoil {
	return []spoil{
		{"no zones", func(d *api.Device) { d.Zones = nil }},
		{"an empty list of zones", func(d *api.Device) { d.Zones = []api.Zone{} }},
		{"33 zones", func(d *api.Device) { d.Zones = append(slices.Clone(d.Zones), make([]api.Zone, 29)...) }},
		{"zones of 2 sectors", func(d *api.Device) { d.Size = 2 }},
		{"zones of 65 sectors", func(d *api.Device) { d.Size = 65 }},
		{"zones of less than 0 sectors", func(d *api.Device) { d.Size = math.MinInt }},
		{"MaxOpen 0", func(d *api.Device) { d.MaxOpen = 0 }},
		{"MaxOpen below 0", func(d *api.Device) { d.MaxOpen = -1 }},
		{"MaxOpen over MaxActive", func(d *api.Device) { d.MaxOpen = d.MaxActive + 1 }},
		{"MaxActive under MaxOpen", func(d *api.Device) { d.MaxActive = d.MaxOpen - 1 }},
		{"MaxActive over the zones", func(d *api.Device) { d.MaxActive = len(d.Zones) + 1 }},
		{"MaxActive far over the zones", func(d *api.Device) { d.MaxActive = math.MaxInt }},
	}
}

// wrongZones are the ways in which one zone can be wrong.
func wrongZones() []struct {
	name string
	zone api.Zone
} {
	short, long := zone(shut, 0, "xy"), zone(full, 3, "xyz")
	short.Sectors[1] = short.Sectors[1][1:]
	long.Sectors[0] += "x"
	none := zone(shut, 2, "xy")
	none.Sectors[0] = ""
	last := zone(full, 3, "xyz")
	last.Sectors[2] = strings.Repeat("x", 80)
	middle := zone(full, 3, "xyz")
	middle.Sectors[1] = "x"
	return []struct {
		name string
		zone api.Zone
	}{
		{"a State below", zone(-1, 0, "")},
		{"a State far below", zone(math.MinInt, 0, "")},
		{"a State above", zone(6, 0, "")},
		{"a State far above", zone(math.MaxInt, 0, "")},
		{"a State that is 1 as a byte", zone(257, 0, "")},
		{"too many sectors", zone(full, 4, "wxyz")},
		{"far too many sectors", zone(full, 65, strings.Repeat("x", 65))},
		{"a short sector", short},
		{"a long sector", long},
		{"a sector without bytes", none},
		{"a last sector that is two", last},
		{"a sector of one byte", middle},
		{"Durable below 0", zone(shut, -1, "xy")},
		{"Durable below 0 of an empty zone", zone(empty, -1, "")},
		{"Durable far below 0", zone(shut, math.MinInt, "")},
		{"Durable above the pointer", zone(shut, 3, "xy")},
		{"Durable above the pointer of an empty zone", zone(empty, 1, "")},
		{"Durable above the pointer of an offline zone", zone(offline, 1, "")},
		{"Durable above the pointer of a full zone", zone(full, 3, "xy")},
		{"Durable far above the pointer", zone(shut, math.MaxInt, "xy")},
		{"a sector in an empty zone", zone(empty, 0, "x")},
		{"a durable sector in an empty zone", zone(empty, 1, "x")},
		{"a sector in an offline zone", zone(offline, 0, "x")},
		{"a durable sector in an offline zone", zone(offline, 1, "x")},
		{"Size sectors and open", zone(opened, 3, "xyz")},
		{"Size sectors and open, not durable", zone(opened, 0, "xyz")},
		{"Size sectors and held", zone(held, 3, "xyz")},
		{"Size sectors and closed", zone(shut, 3, "xyz")},
		{"Size sectors and closed, not durable", zone(shut, 0, "xyz")},
		{"full and not durable", zone(full, 2, "xyz")},
		{"full and not durable at all", zone(full, 0, "xyz")},
		{"full early and not durable", zone(full, 1, "xy")},
		{"full with one sector and not durable", zone(full, 0, "x")},
	}
}

// tooMany are the ways in which a device with four zones can have too many open or active zones, and be right in all else.
func tooMany() []spoil {
	states := func(maxOpen, maxActive int, states ...int) func(*api.Device) {
		return func(d *api.Device) {
			d.MaxOpen, d.MaxActive = maxOpen, maxActive
			for i, s := range states {
				d.Zones[i] = zone(s, 0, "x")
			}
		}
	}
	return []spoil{
		{"two open ones of one", states(1, 4, opened, opened)},
		{"two held ones of one", states(1, 4, held, held)},
		{"an open one and a held one of one", states(1, 4, shut, opened, shut, held)},
		{"three open ones of two", states(2, 3, opened, opened, held)},
		{"four open ones of three", states(3, 4, held, opened, held, opened)},
		{"two closed ones of one active", func(d *api.Device) {
			d.MaxOpen, d.MaxActive, d.Zones[1], d.Zones[3] = 1, 1, zone(shut, 0, "ab"), zone(empty, 0, "")
		}},
		{"an open one and a closed one of one active", func(d *api.Device) { d.MaxOpen, d.MaxActive = 1, 1 }},
		{"a held one and a closed one of one active", func(d *api.Device) { d.MaxOpen, d.MaxActive, d.Zones[1] = 1, 1, zone(held, 1, "ab") }},
		{"four active ones of three", states(2, 3, shut, opened, shut, shut)},
		{"four closed ones of three", states(1, 3, shut, shut, shut, shut)},
	}
}

// wrongStates are the ways in which a device with four zones can be not valid, with numbers that are right.
func wrongStates() []spoil {
	l := tooMany()
	for i := range 4 {
		for _, w := range wrongZones() {
			l = append(l, spoil{w.name, func(d *api.Device) {
				d.Zones[i] = zone(w.zone.State, w.zone.Durable, "")
				d.Zones[i].Sectors = slices.Clone(w.zone.Sectors)
			}})
		}
	}
	return l
}

// spoilt is the device with four zones behind what is done to it.
func spoilt(l ...spoil) api.Device {
	d := clone(four())
	for _, s := range l {
		s.apply(&d)
	}
	return d
}

func TestWrongInOneWay(t *testing.T) {
	if e := zns.Check(four()); e != api.OK {
		t.Fatalf("Check of %s: %d", text(four()), e)
	}
	for _, s := range wrongNumbers() {
		refuseAll(t, s.name, spoilt(s), api.ErrConfig)
	}
	for _, s := range wrongStates() {
		refuseAll(t, s.name, spoilt(s), api.ErrState)
	}
}

func TestWrongInTwoWays(t *testing.T) {
	for _, a := range wrongStates() {
		for _, b := range wrongStates() {
			if e, want := zns.Check(spoilt(a, b)), expectCheck(spoilt(a, b)); e != want {
				t.Errorf("%s and %s: %d, want %d", a.name, b.name, e, want)
			}
		}
		for _, b := range wrongNumbers() {
			refuseAll(t, a.name+" and "+b.name, spoilt(a, b), api.ErrConfig)
		}
	}
}

// TestOneWrongZoneOfMany has each zone of the greatest device wrong, and each sector of a zone.
func TestOneWrongZoneOfMany(t *testing.T) {
	all := strings.Repeat("x", 64)
	d, _ := zns.New(32, 64, 32, 32)
	for i := range d.Zones {
		d.Zones[i] = zone(full, 64, all)
	}
	for i := range d.Zones {
		for _, z := range []api.Zone{zone(full, 64, all), zone(full, 63, all[:63]), zone(opened, 0, all[:63]), zone(held, 63, all[:63]), zone(shut, 9, all[:63])} {
			if e := zns.Check(replaced(d, i, z)); e != api.OK {
				t.Errorf("Check with another zone %d: %d", i, e)
			}
		}
		for _, z := range []api.Zone{zone(full, 65, all+"x"), zone(full, 63, all), zone(opened, 64, all), zone(held, 0, all), zone(shut, 64, all), zone(opened, 64, all[:63])} {
			if e := zns.Check(replaced(d, i, z)); e != api.ErrState {
				t.Errorf("Check with a wrong zone %d: %d", i, e)
			}
		}
	}
	for offset := range 64 {
		z := zone(full, 64, all)
		z.Sectors[offset] += "x"
		if e := zns.Check(replaced(d, 31, z)); e != api.ErrState {
			t.Errorf("Check with a wrong sector %d: %d", offset, e)
		}
	}
}

func TestCheckOfValidDevices(t *testing.T) {
	for _, d := range []api.Device{
		four(),
		device(1, 1, zone(empty, 0, "")),
		device(1, 1, zone(offline, 0, "")),
		device(1, 1, zone(opened, 0, "")),
		device(1, 1, zone(opened, 0, "ab")),
		device(1, 1, zone(opened, 2, "ab")),
		device(1, 1, zone(held, 0, "")),
		device(1, 1, zone(held, 1, "ab")),
		device(1, 1, zone(shut, 0, "")),
		device(1, 1, zone(shut, 2, "ab")),
		device(1, 1, zone(full, 0, "")),
		device(1, 1, zone(full, 1, "a")),
		device(1, 1, zone(full, 2, "ab")),
		device(1, 1, zone(full, 3, "abc")),
		device(2, 2, zone(opened, 1, "a"), zone(held, 0, "b")),
		device(1, 2, zone(opened, 1, "a"), zone(shut, 0, "")),
		device(1, 3, zone(shut, 1, "a"), zone(shut, 0, ""), zone(shut, 2, "bc")),
		device(1, 1, zone(full, 0, ""), zone(offline, 0, ""), zone(held, 0, "a"), zone(empty, 0, ""), zone(full, 3, "bcd")),
	} {
		if e := zns.Check(d); e != api.OK {
			t.Errorf("Check of %s: %d", text(d), e)
		}
		if e := zns.Check(roomy(d)); e != api.OK {
			t.Errorf("Check of %s with memory behind its zones: %d", text(d), e)
		}
	}
}

func TestZonesThatAreNot(t *testing.T) {
	for _, d := range []api.Device{four(), device(1, 1, zone(offline, 0, "")), device(1, 1, zone(full, 0, "")), device(1, 1, zone(held, 0, ""))} {
		for _, zone := range append([]int{len(d.Zones), len(d.Zones) + 1, 32, 1 << 8, 1 << 16}, great...) {
			for _, kind := range []string{appending, reading, resetting, finishing, opening, closing} {
				for _, offset := range append([]int{0, 9}, great...) {
					refuse(t, "no zone", call{kind, zone, offset, sector('z')}, d, api.ErrZone)
					refuse(t, "no zone, and no sector", call{kind, zone, offset, "z"}, d, api.ErrZone)
				}
			}
		}
	}
}

// TestFirstAndLastZone changes the first and the last zone of a device with zones in the middle that stay.
func TestFirstAndLastZone(t *testing.T) {
	f, c := zone(full, 3, "efg"), zone(shut, 1, "ab")
	d := device(2, 2, c, f, f, c)
	for _, at := range []int{0, 3} {
		expect(t, "an index", call{kind: appending, zone: at, sector: sector('z')}, d, replaced(d, at, zone(full, 3, "abz")), api.OK)
		expect(t, "an index", call{kind: resetting, zone: at}, d, replaced(d, at, zone(empty, 0, "")), api.OK)
		expect(t, "an index", call{kind: finishing, zone: at}, d, replaced(d, at, zone(full, 2, "ab")), api.OK)
		expect(t, "an index", call{kind: opening, zone: at}, d, replaced(d, at, zone(held, 1, "ab")), api.OK)
		expect(t, "an index", call{kind: closing, zone: at}, d, d, api.OK)
		if s, e := zns.Read(d, at, 1); s != sector('b') || e != api.OK {
			t.Errorf("Read of the zone %d: %q, %d", at, s, e)
		}
	}
}
