package layout_test

import (
	"slices"
	"testing"

	"zoneappend/api"
	"zoneappend/layout"
)

func TestOf(t *testing.T) {
	for _, c := range []struct {
		zones, size, blocks, queues int
		want                        api.Layout
	}{
		{12, 8, 6, 1, api.Layout{Slot: 1, First: 2, Data: 10, Capacity: 47}},
		{12, 8, 6, 2, api.Layout{Slot: 1, First: 2, Data: 10, Capacity: 46}},
		{12, 8, 6, 4, api.Layout{Slot: 1, First: 2, Data: 10, Capacity: 44}},
		{12, 8, 7, 1, api.Layout{Slot: 2, First: 4, Data: 8, Capacity: 33}},
		{13, 8, 6, 1, api.Layout{Slot: 1, First: 2, Data: 11, Capacity: 54}},
		{13, 8, 7, 1, api.Layout{Slot: 2, First: 4, Data: 9, Capacity: 40}},
		{12, 9, 6, 1, api.Layout{Slot: 1, First: 2, Data: 10, Capacity: 54}},
		{12, 7, 6, 1, api.Layout{Slot: 2, First: 4, Data: 8, Capacity: 28}},
		{8, 3, 1, 1, api.Layout{Slot: 1, First: 2, Data: 6, Capacity: 4}},
		{8, 3, 1, 4, api.Layout{Slot: 1, First: 2, Data: 6, Capacity: 1}},
		{20, 3, 8, 2, api.Layout{Slot: 4, First: 8, Data: 12, Capacity: 15}},
		{32, 3, 37, 4, api.Layout{Slot: 13, First: 26, Data: 6, Capacity: 1}},
		{32, 10, 128, 3, api.Layout{Slot: 13, First: 26, Data: 6, Capacity: 23}},
		{32, 64, 1, 1, api.Layout{Slot: 1, First: 2, Data: 30, Capacity: 1699}},
		{32, 64, 128, 4, api.Layout{Slot: 3, First: 6, Data: 26, Capacity: 1444}},
		{12, 64, 128, 4, api.Layout{Slot: 3, First: 6, Data: 6, Capacity: 184}},
	} {
		for _, n := range []int{1, 2, 7, 8} {
			x := config(c.zones, c.size, c.blocks, c.queues)
			hold(t, x, c.want, api.OK)
			x.Depth = n
			hold(t, x, c.want, api.OK)
			x.Shards = 9 - n
			hold(t, x, c.want, api.OK)
		}
	}
}

// TestDataZones has one data zone too few, just enough, and one more.
func TestDataZones(t *testing.T) {
	for _, c := range []struct {
		size, blocks, queues int
		just                 api.Layout
	}{
		{8, 6, 1, api.Layout{Slot: 1, First: 2, Data: 6, Capacity: 19}},
		{8, 7, 1, api.Layout{Slot: 2, First: 4, Data: 6, Capacity: 19}},
		{8, 14, 4, api.Layout{Slot: 2, First: 4, Data: 6, Capacity: 16}},
		{8, 15, 4, api.Layout{Slot: 3, First: 6, Data: 6, Capacity: 16}},
		{3, 1, 1, api.Layout{Slot: 1, First: 2, Data: 6, Capacity: 4}},
		{3, 1, 4, api.Layout{Slot: 1, First: 2, Data: 6, Capacity: 1}},
		{3, 31, 2, api.Layout{Slot: 11, First: 22, Data: 6, Capacity: 3}},
		{64, 62, 1, api.Layout{Slot: 1, First: 2, Data: 6, Capacity: 187}},
		{64, 128, 4, api.Layout{Slot: 3, First: 6, Data: 6, Capacity: 184}},
	} {
		zones := c.just.First + c.just.Data
		hold(t, config(zones, c.size, c.blocks, c.queues), c.just, api.OK)
		more := c.just
		more.Data++
		more.Capacity += c.size - 1
		hold(t, config(zones+1, c.size, c.blocks, c.queues), more, api.OK)
		for few := 1; few < zones; few++ {
			refuse(t, config(few, c.size, c.blocks, c.queues), api.ErrConfig)
		}
	}
}

// TestCapacity has capacities around 1. Those below 1 have too few data zones too: with enough of them, the capacity is at least 1.
func TestCapacity(t *testing.T) {
	hold(t, config(8, 3, 1, 4), api.Layout{Slot: 1, First: 2, Data: 6, Capacity: 1}, api.OK)
	hold(t, config(8, 3, 1, 3), api.Layout{Slot: 1, First: 2, Data: 6, Capacity: 2}, api.OK)
	hold(t, config(32, 3, 37, 4), api.Layout{Slot: 13, First: 26, Data: 6, Capacity: 1}, api.OK)
	refuse(t, config(7, 3, 1, 2), api.ErrConfig)    // The capacity 1, with five data zones.
	refuse(t, config(7, 3, 1, 3), api.ErrConfig)    // 0
	refuse(t, config(7, 3, 1, 4), api.ErrConfig)    // -1
	refuse(t, config(6, 6, 1, 4), api.ErrConfig)    // 0, with four data zones
	refuse(t, config(6, 7, 1, 4), api.ErrConfig)    // 1
	refuse(t, config(6, 64, 62, 1), api.ErrConfig)  // 61
	refuse(t, config(5, 64, 62, 4), api.ErrConfig)  // -5, with three
	refuse(t, config(2, 64, 62, 1), api.ErrConfig)  // -191, with none
	refuse(t, config(1, 64, 62, 1), api.ErrConfig)  // Fewer zones than slots.
	refuse(t, config(1, 3, 128, 4), api.ErrConfig)  // The least capacity, with -87 data zones.
	refuse(t, config(32, 3, 38, 1), api.ErrConfig)  // One block more than 32 zones of three sectors have slots for.
	refuse(t, config(32, 3, 128, 1), api.ErrConfig) // Slots that are greater than the device.
	refuse(t, config(32, 9, 128, 1), api.ErrConfig)
}

// TestFilledSlots has blocks that fill the zones of a slot exactly, one fewer, and one more.
func TestFilledSlots(t *testing.T) {
	for size := api.MinSize; size <= api.MaxSize; size++ {
		for zones := 1; zones*size-2 <= api.MaxBlocks; zones++ {
			blocks := zones*size - 2
			holdSlot(t, size, blocks, zones)
			holdSlot(t, size, blocks-1, zones)
			holdSlot(t, size, blocks+1, zones+1)
		}
	}
}

// holdSlot expects the slots of the greatest number of zones of a size to have this number of zones.
func holdSlot(t *testing.T, size, blocks, slot int) {
	t.Helper()
	c := config(api.MaxZones, size, blocks, 1)
	if blocks < 1 || blocks > api.MaxBlocks {
		refuse(t, c, api.ErrRange)
		return
	}
	data := api.MaxZones - slot - slot
	if data < 6 {
		refuse(t, c, api.ErrConfig)
		return
	}
	hold(t, c, api.Layout{Slot: slot, First: slot + slot, Data: data, Capacity: (data-3)*(size-1) - 2}, api.OK)
}

func TestSlotsAndIsData(t *testing.T) {
	c := config(20, 3, 8, 2)
	for slot, want := range map[int][]int{-1: nil, 0: {0, 1, 2, 3}, 1: {4, 5, 6, 7}, 2: nil, 3: nil} {
		if l := layout.Slots(c, slot); !slices.Equal(l, want) {
			t.Errorf("slot %d: %v, want %v", slot, l, want)
		}
	}
	for zone, want := range map[int]bool{-1: false, 0: false, 3: false, 4: false, 7: false, 8: true, 9: true, 18: true, 19: true, 20: false, 21: false} {
		if layout.IsData(c, zone) != want {
			t.Errorf("zone %d: %t, want %t", zone, !want, want)
		}
	}
}

// TestChangedLists has a caller who changes what was returned, and appends to it.
func TestChangedLists(t *testing.T) {
	for _, c := range []api.Config{config(12, 8, 6, 1), config(20, 3, 8, 2), config(32, 3, 37, 4), config(32, 64, 128, 4)} {
		l, _ := layout.Of(c)
		first, second := layout.Slots(c, 0), layout.Slots(c, 1)
		kept := slices.Clone(second)
		for i := range first {
			first[i] = -7
		}
		_ = append(first, -8, -9)
		if !slices.Equal(second, kept) {
			t.Errorf("%s: the lists of the slots share memory", text(c))
		}
		hold(t, c, l, api.OK)
		for i := range second {
			second[i] = -7
		}
		_ = append(second[:0], -8, -9)
		hold(t, c, l, api.OK)
		for _, x := range first {
			if x != -7 {
				t.Errorf("%s: a list that was returned changed", text(c))
			}
		}
	}
}
