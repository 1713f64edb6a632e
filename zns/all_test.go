package zns_test

import (
	"iter"
	"math"
	"math/rand/v2"
	"testing"

	"zoneappend/api"
	"zoneappend/zns"
)

// limits are all pairs of MaxOpen and MaxActive that a device with n zones may have.
func limits(n int) [][2]int {
	var l [][2]int
	for active := 1; active <= n; active++ {
		for open := 1; open <= active; open++ {
			l = append(l, [2]int{open, active})
		}
	}
	return l
}

// letters are those of the sectors of a zone: no two sectors of a device are equal.
func letters(zone int) string { return []string{"abcdef", "ghijkl", "mnopqr", "stuvwx"}[zone] }

// devices are all devices with zones of three sectors that have n zones of these kinds and these limits.
func devices(n int, kinds []api.Zone, limits [][2]int) iter.Seq[api.Device] {
	return func(yield func(api.Device) bool) {
		count := 1
		for range n {
			count *= len(kinds)
		}
		for i := range count {
			var zones []api.Zone
			for at := range n {
				k := kinds[i%len(kinds)]
				i /= len(kinds)
				zones = append(zones, zone(k.State, k.Durable, letters(at)[:len(k.Sectors)]))
			}
			for _, l := range limits {
				if !yield(device(l[0], l[1], zones...)) {
					return
				}
			}
		}
	}
}

// anyKinds are zones with all States, pointers and Durables at and beside their limits.
func anyKinds() []api.Zone {
	var l []api.Zone
	for _, state := range []int{math.MinInt, -1, 0, 1, 2, 3, 4, 5, 6, 257, math.MaxInt} {
		for pointer := range 5 {
			for _, durable := range []int{math.MinInt, -1, 0, 1, 2, 3, 4, 5, math.MaxInt} {
				l = append(l, zone(state, durable, "abcdef"[:pointer]))
			}
		}
	}
	return l
}

// goodKinds are all zones with three sectors that a device may have.
func goodKinds() []api.Zone {
	var l []api.Zone
	for d := range devices(1, anyKinds(), [][2]int{{1, 1}}) {
		if expectCheck(d) == api.OK {
			l = append(l, d.Zones[0])
		}
	}
	return l
}

// fewKinds are zones of each State and pointer that a device may have, with one Durable for each.
func fewKinds() []api.Zone {
	var l []api.Zone
	for _, z := range goodKinds() {
		if z.State == full || z.Durable == len(z.Sectors)/2 {
			l = append(l, z)
		}
	}
	return l
}

// calls are all calls for a device with n zones of three sectors: for each zone, and for some that there are not.
func calls(n int) []call {
	var l []call
	for _, zone := range []int{math.MinInt, -1, 0, 1, 2, 3, 4, 5, math.MaxInt} {
		if zone > n && zone < math.MaxInt {
			continue
		}
		for _, s := range []string{sector('z'), "", sector('z')[1:], sector('z') + "z"} {
			l = append(l, call{kind: appending, zone: zone, sector: s})
		}
		for _, offset := range []int{math.MinInt, -1, 0, 1, 2, 3, math.MaxInt} {
			l = append(l, call{kind: reading, zone: zone, offset: offset})
		}
		for _, kind := range []string{resetting, finishing, opening, closing} {
			l = append(l, call{kind: kind, zone: zone})
		}
	}
	return l
}

// holdAll holds all calls of a device against what is expected, and that the device and the outcomes stay.
func holdAll(t *testing.T, d api.Device, calls []call) {
	t.Helper()
	d = roomy(d)
	before := whole(d)
	var outcomes, copies []api.Device
	for _, c := range calls {
		o := hold(t, c, d)
		if o.err == api.OK && c.kind != reading && expectCheck(o.device) != api.OK {
			t.Fatalf("%s of %s: %s is not valid", c.text(), text(d), text(o.device))
		}
		outcomes, copies = append(outcomes, o.device), append(copies, clone(o.device))
	}
	if !same(before, whole(d)) {
		t.Fatalf("%s became %s", text(before), text(whole(d)))
	}
	for i, o := range outcomes {
		if !same(o, copies[i]) {
			t.Fatalf("%s of %s: %s became %s", calls[i].text(), text(d), text(copies[i]), text(o))
		}
	}
}

// holdCheck holds Check and Counts of a device against what is expected.
func holdCheck(t *testing.T, d api.Device) {
	t.Helper()
	if e, want := zns.Check(d), expectCheck(d); e != want {
		t.Fatalf("Check of %s: %d, want %d", text(d), e, want)
	}
	open, active := zns.Counts(d)
	if o, a := expectCounts(d); open != o || active != a {
		t.Fatalf("Counts of %s: %d, %d, want %d, %d", text(d), open, active, o, a)
	}
}

func TestCheckOfAllZones(t *testing.T) {
	for d := range devices(1, anyKinds(), [][2]int{{1, 1}, {0, 1}, {1, 2}}) {
		holdCheck(t, d)
	}
	for d := range devices(2, anyKinds(), [][2]int{{1, 2}}) {
		holdCheck(t, d)
	}
}

func TestCheckOfAllSmallDevices(t *testing.T) {
	for n := 2; n <= 4; n++ {
		for d := range devices(n, fewKinds(), limits(n)) {
			holdCheck(t, d)
		}
	}
}

func TestAllCallsOfOneZone(t *testing.T) {
	all := calls(1)
	for d := range devices(1, anyKinds(), [][2]int{{1, 1}, {0, 1}, {1, 2}}) {
		holdAll(t, d, all)
	}
}

func TestAllCallsOfTwoZones(t *testing.T) {
	all := calls(2)
	for d := range devices(2, goodKinds(), limits(2)) {
		holdAll(t, d, all)
	}
}

func TestAllCallsOfThreeZones(t *testing.T) {
	all := calls(3)
	for d := range devices(3, fewKinds(), limits(3)) {
		holdAll(t, d, all)
	}
}

// TestRoomAmongFourZones opens each zone of all devices with zones that have no sector or one.
func TestRoomAmongFourZones(t *testing.T) {
	var kinds []api.Zone
	for _, z := range fewKinds() {
		if len(z.Sectors) < 2 {
			kinds = append(kinds, z)
		}
	}
	for d := range devices(4, kinds, limits(4)) {
		for zone := range 4 {
			hold(t, call{kind: opening, zone: zone}, d)
			hold(t, call{kind: appending, zone: zone, sector: sector('z')}, d)
		}
	}
}

// step is a call that comes next in a walk: of all calls and zones, appends to one zone more often than others.
func step(r *rand.Rand, zones, size int) call {
	c := call{zone: r.IntN(zones), offset: r.IntN(size), sector: sector(byte(' ' + r.IntN(90)))}
	switch r.IntN(40) {
	case 0:
		c.kind = resetting
	case 1:
		c.kind = finishing
	case 2, 3:
		c.kind = opening
	case 4, 5:
		c.kind = closing
	case 6, 7:
		c.kind = reading
	default:
		c.kind = appending
		c.zone = min(c.zone, r.IntN(zones))
	}
	return c
}

// walk makes many calls from a new device on, and holds what can be read against what was appended.
func walk(t *testing.T, seed uint64, zones, size, open, active int) {
	t.Helper()
	r := rand.New(rand.NewPCG(seed, 5))
	d, e := zns.New(zones, size, open, active)
	if e != api.OK {
		t.Fatalf("New(%d, %d, %d, %d): %d", zones, size, open, active, e)
	}
	held := make([][]string, zones)
	full := 0
	for range 3000 {
		c := step(r, zones, size)
		o := hold(t, c, d)
		switch {
		case o.err != api.OK || c.kind == reading:
			continue
		case c.kind == appending:
			held[c.zone] = append(held[c.zone], c.sector)
			if o.offset != len(held[c.zone])-1 {
				t.Fatalf("%s went to %d, behind %d sectors", c.text(), o.offset, len(held[c.zone])-1)
			}
		case c.kind == resetting:
			held[c.zone] = nil
		}
		d = o.device
		if len(held[c.zone]) == size {
			full++
		}
		if e := zns.Check(d); e != api.OK {
			t.Fatalf("%s leads to %s: %d", c.text(), text(d), e)
		}
		readable(t, d, held)
	}
	if full == 0 {
		t.Errorf("a walk with %d zones of %d sectors has filled none", zones, size)
	}
}

// readable expects that the sectors of each zone can be read, and no others.
func readable(t *testing.T, d api.Device, held [][]string) {
	t.Helper()
	for zone, l := range held {
		for offset := range d.Size + 1 {
			s, e := zns.Read(d, zone, offset)
			if offset < len(l) && (s != l[offset] || e != api.OK) || offset >= len(l) && (s != "" || e != api.ErrOffset) {
				t.Fatalf("Read of %s, the zone %d, the offset %d: %q, %d", text(d), zone, offset, s, e)
			}
		}
	}
}

func TestWalks(t *testing.T) {
	for seed := range uint64(3) {
		walk(t, seed, 1, 3, 1, 1)
		walk(t, seed, 2, 5, 1, 2)
		walk(t, seed, 3, 8, 2, 2)
		walk(t, seed, 5, 4, 2, 3)
		walk(t, seed, 12, 8, 3, 3)
		walk(t, seed, 7, 16, 7, 7)
	}
}
