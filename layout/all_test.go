package layout_test

import (
	"testing"

	"zoneappend/api"
	"zoneappend/layout"
)

// expect is the layout, or the error, of a configuration whose numbers are in their ranges: read once more from the chapter, zone by zone.
func expect(c api.Config) (api.Layout, api.Errno) {
	var l api.Layout
	for room := 0; room < c.Blocks+2; room += c.Size {
		l.Slot++
	}
	l.First = l.Slot + l.Slot
	for range c.Zones - l.First {
		l.Data++
	}
	// Three of the data zones, a sector of each of the others, one for each queue, and one more are not promised.
	for range l.Data - 3 {
		l.Capacity += c.Size - 1
	}
	l.Capacity -= c.Queues + 1
	if l.Data < 6 || l.Capacity < 1 {
		return api.Layout{}, api.ErrConfig
	}
	return l, api.OK
}

// each calls back with all configurations whose numbers are in their ranges, but for Depth and Shards, which run through theirs beside the others.
func each(call func(c api.Config)) {
	turn := 0
	for size := api.MinSize; size <= api.MaxSize; size++ {
		for zones := 1; zones <= api.MaxZones; zones++ {
			for blocks := 1; blocks <= api.MaxBlocks; blocks++ {
				for queues := 1; queues <= api.MaxQueues; queues++ {
					call(api.Config{Zones: zones, Size: size, Blocks: blocks, Queues: queues, Depth: 1 + turn%8, Shards: 1 + turn/8%8})
					turn++
				}
			}
		}
	}
}

func TestAllConfigurations(t *testing.T) {
	counts := map[api.Errno]int{}
	each(func(c api.Config) {
		want, err := expect(c)
		if l, e := layout.Of(c); l != want || e != err {
			t.Fatalf("Of of %s: %+v, %d, want %+v, %d", text(c), l, e, want, err)
		}
		if e := layout.Check(c); e != err {
			t.Fatalf("Check of %s: %d, want %d", text(c), e, err)
		}
		counts[err]++
	})
	if counts[api.OK] == 0 || counts[api.ErrConfig] == 0 || counts[api.OK]+counts[api.ErrConfig] != 62*32*128*4 {
		t.Errorf("%v", counts)
	}
}

// TestRoom holds the layouts of all configurations against the consequences.
func TestRoom(t *testing.T) {
	each(func(c api.Config) {
		l, e := layout.Of(c)
		if e != api.OK {
			return
		}
		// A head, an entry for each block, and a foot (chapter 21).
		if records := 1 + c.Blocks + 1; l.Slot*c.Size < records || (l.Slot-1)*c.Size >= records {
			t.Fatalf("%s: %d zones for %d records", text(c), l.Slot, records)
		}
		if l.Capacity < 1 || l.Capacity >= l.Data*c.Size {
			t.Fatalf("%s: the capacity %d, with %d sectors", text(c), l.Capacity, l.Data*c.Size)
		}
		if l.Data < api.Reserve+4 || l.First+l.Data != c.Zones {
			t.Fatalf("%s: %d data zones behind %d", text(c), l.Data, l.First)
		}
	})
}

// TestZones counts, for all configurations, for what each zone is: for one thing where there is a layout, and for none where there is not.
func TestZones(t *testing.T) {
	each(func(c api.Config) {
		var uses [api.MaxZones + 1]int
		for slot := -1; slot <= 2; slot++ {
			before := -1
			for _, zone := range layout.Slots(c, slot) {
				if zone <= before || zone >= c.Zones {
					t.Fatalf("Slots of %s, slot %d: %d behind %d", text(c), slot, zone, before)
				}
				before = zone
				uses[zone]++
			}
		}
		for zone := range uses {
			if layout.IsData(c, zone) {
				uses[zone]++
			}
		}
		valid := layout.Check(c) == api.OK
		for zone, n := range uses {
			if (n == 1) != (valid && zone < c.Zones) || n > 1 {
				t.Fatalf("%s: the zone %d is for %d things", text(c), zone, n)
			}
		}
	})
}
