package zns_test

import (
	"math/rand/v2"
	"slices"
	"testing"

	"zoneappend/api"
	"zoneappend/zns"
)

// kept is a device that was returned, and a copy of it from then.
type kept struct{ device, then api.Device }

// keep makes a call and keeps the device that it returns.
func keep(t *testing.T, l []kept, c call, d api.Device) []kept {
	t.Helper()
	o := hold(t, c, d)
	return append(l, kept{o.device, clone(o.device)})
}

// stay expects that devices are as they were.
func stay(t *testing.T, l []kept) {
	t.Helper()
	for i, k := range l {
		if !same(k.device, k.then) {
			t.Fatalf("the device %d of %d: %s became %s", i, len(l), text(k.then), text(k.device))
		}
	}
}

// TestAppendsBehindOneDevice appends several sectors at each offset, each of them to the same device.
func TestAppendsBehindOneDevice(t *testing.T) {
	for _, state := range []int{empty, held} {
		d := api.Device{Size: 64, MaxOpen: 1, MaxActive: 2, Zones: []api.Zone{{}, {State: state}, {}}}
		var l []kept
		for range d.Size {
			for letter := range byte(4) {
				l = keep(t, l, call{kind: appending, zone: 1, sector: sector('a' + letter)}, d)
			}
			d = l[len(l)-3].device
		}
		stay(t, l)
		if z := d.Zones[1]; z.State != full || z.Durable != 64 {
			t.Errorf("%s is not full", text(d))
		}
	}
}

// TestEarlierDevicesStay goes back to earlier devices again and again.
func TestEarlierDevicesStay(t *testing.T) {
	r := rand.New(rand.NewPCG(1, 5))
	for _, zones := range []int{1, 2, 4, 9} {
		d, _ := zns.New(zones, 12, (zones+1)/2, zones)
		l := []kept{{d, clone(d)}}
		for range 4000 {
			from := l[len(l)-1-r.IntN(min(len(l), 8))].device
			if r.IntN(20) == 0 {
				from = l[r.IntN(len(l))].device
			}
			c := step(r, zones, 12)
			if c.kind == reading {
				continue
			}
			l = keep(t, l, c, from)
		}
		stay(t, l)
	}
}

// TestTheGreatestDevice fills all zones of the greatest device, with as many open ones as may be, and with one.
func TestTheGreatestDevice(t *testing.T) {
	for _, open := range []int{1, 2, api.MaxZones} {
		d, e := zns.New(api.MaxZones, api.MaxSize, open, api.MaxZones)
		if e != api.OK {
			t.Fatalf("New: %d", e)
		}
		contents := make([][]string, api.MaxZones)
		for at := range api.MaxSize {
			for i := range api.MaxZones {
				s := sector(byte('!' + (at*7+i)%90))
				contents[i] = append(contents[i], s)
				if d = hold(t, call{kind: appending, zone: i, sector: s}, d).device; zns.Check(d) != api.OK {
					t.Fatalf("%s is not valid", text(d))
				}
			}
			if o, a := zns.Counts(d); at < api.MaxSize-1 && (o != open || a != api.MaxZones) {
				t.Fatalf("%d open ones, %d active ones, of %d", o, a, open)
			}
		}
		readable(t, d, contents)
		if o, a := zns.Counts(d); o != 0 || a != 0 {
			t.Errorf("full zones are open: %d, %d", o, a)
		}
		for i := range api.MaxZones {
			hold(t, call{kind: appending, zone: i, sector: sector('z')}, d)
			hold(t, call{kind: resetting, zone: i}, d)
		}
	}
}

// contents are the sectors that can be read.
func contents(d api.Device) [][]string {
	l := make([][]string, len(d.Zones))
	for zone := range l {
		for {
			s, e := zns.Read(d, zone, len(l[zone]))
			if e != api.OK {
				break
			}
			l[zone] = append(l[zone], s)
		}
	}
	return l
}

// TestWhatCanBeRead holds what can be read before and behind each call of all valid devices with two zones.
func TestWhatCanBeRead(t *testing.T) {
	for d := range devices(2, goodKinds(), [][2]int{{1, 1}, {1, 2}, {2, 2}}) {
		if zns.Check(d) != api.OK {
			continue
		}
		before := contents(d)
		for _, c := range calls(2) {
			o := c.on(d)
			if c.kind == reading {
				continue
			}
			want := slices.Clone(before)
			switch {
			case o.err != api.OK:
			case c.kind == appending:
				want[c.zone] = append(slices.Clone(want[c.zone]), c.sector)
			case c.kind == resetting:
				want[c.zone] = nil
			}
			if got := contents(o.device); !slices.EqualFunc(got, want, slices.Equal) {
				t.Fatalf("%s of %s: what can be read is %q, want %q", c.text(), text(d), got, want)
			}
		}
	}
}
