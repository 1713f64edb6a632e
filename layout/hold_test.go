package layout_test

import (
	"math"
	"slices"
	"strconv"
	"testing"

	"zoneappend/api"
	"zoneappend/layout"
)

// far are numbers that are no zone and no slot; some of them are one in their lowest bits.
var far = []int{
	-1, -2, -32, -256, -1 << 32, 1 - 1<<32, 8 - 1<<32, -1 << 62, math.MinInt, math.MinInt + 1, math.MinInt + 8,
	33, 64, 256, 257, 256 + 8, 1 << 31, 1 << 32, 1<<32 + 1, 1<<32 + 8, 1 << 62, math.MaxInt - 1, math.MaxInt,
}

// config is a configuration with one command for each queue, and one shard.
func config(zones, size, blocks, queues int) api.Config {
	return api.Config{Zones: zones, Size: size, Blocks: blocks, Queues: queues, Depth: 1, Shards: 1}
}

// text is a configuration as the lines of failures have it.
func text(c api.Config) string {
	return "zones " + strconv.Itoa(c.Zones) + " size " + strconv.Itoa(c.Size) + " blocks " + strconv.Itoa(c.Blocks) +
		" queues " + strconv.Itoa(c.Queues) + " depth " + strconv.Itoa(c.Depth) + " shards " + strconv.Itoa(c.Shards)
}

// hold expects of all four functions what the layout of a configuration, or its error, says.
func hold(t *testing.T, c api.Config, want api.Layout, err api.Errno) {
	t.Helper()
	if e := layout.Check(c); e != err {
		t.Fatalf("Check of %s: %d, want %d", text(c), e, err)
	}
	if l, e := layout.Of(c); l != want || e != err {
		t.Fatalf("Of of %s: %+v, %d, want %+v, %d", text(c), l, e, want, err)
	}
	if err != api.OK {
		holdNothing(t, c)
		return
	}
	holdSlots(t, c, want.Slot)
	holdIsData(t, c, want.First)
}

// refuse expects an error from Check and Of, and nothing from the others.
func refuse(t *testing.T, c api.Config, err api.Errno) {
	t.Helper()
	hold(t, c, api.Layout{}, err)
}

// holdNothing expects a configuration to have no zones.
func holdNothing(t *testing.T, c api.Config) {
	t.Helper()
	for n := range api.MaxZones + 1 {
		holdOutside(t, c, n)
	}
	for _, n := range far {
		holdOutside(t, c, n)
	}
	for _, n := range []int{c.Zones - 1, c.Zones, c.Blocks, c.Size} {
		holdOutside(t, c, n)
	}
}

// holdOutside expects a number to be neither a slot nor a data zone.
func holdOutside(t *testing.T, c api.Config, n int) {
	t.Helper()
	if l := layout.Slots(c, n); len(l) != 0 {
		t.Fatalf("Slots of %s, slot %d: %v, want none", text(c), n, l)
	}
	if layout.IsData(c, n) {
		t.Fatalf("IsData of %s, zone %d: true", text(c), n)
	}
}

// holdSlots expects the two slots to have this number of zones each, from the zone 0 on, and no other slot to have any.
func holdSlots(t *testing.T, c api.Config, zones int) {
	t.Helper()
	first, second := layout.Slots(c, 0), layout.Slots(c, 1)
	if len(first) != zones || len(second) != zones {
		t.Fatalf("Slots of %s: %v and %v, want %d zones each", text(c), first, second, zones)
	}
	for i, zone := range slices.Concat(first, second) {
		if zone != i {
			t.Fatalf("Slots of %s: %v and %v, want %d at %d", text(c), first, second, i, i)
		}
	}
	for _, slot := range append([]int{2, 3, 4, zones, c.Zones}, far...) {
		if l := layout.Slots(c, slot); slot != 0 && slot != 1 && len(l) != 0 {
			t.Fatalf("Slots of %s, slot %d: %v, want none", text(c), slot, l)
		}
	}
}

// holdIsData expects the zones from the first one on to be for data.
func holdIsData(t *testing.T, c api.Config, first int) {
	t.Helper()
	for zone := -40; zone <= 2*api.MaxZones; zone++ {
		want := zone >= first && zone < c.Zones
		if got := layout.IsData(c, zone); got != want {
			t.Fatalf("IsData of %s, zone %d: %t, want %t", text(c), zone, got, want)
		}
	}
	for _, zone := range far {
		if (zone < 0 || zone >= c.Zones) && layout.IsData(c, zone) {
			t.Fatalf("IsData of %s, zone %d: true", text(c), zone)
		}
	}
}
