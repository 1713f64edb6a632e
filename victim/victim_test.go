package victim_test

import (
	"math"
	"slices"
	"testing"

	"zoneappend/api"
	"zoneappend/victim"
)

// TestExample has the chapter's example: full zones with 3 and with 5 live records of 7, in both orders, at all pairs of places.
func TestExample(t *testing.T) {
	for _, s := range shapes {
		if s.c.Size != 8 {
			continue
		}
		for _, three := range s.all() {
			for _, five := range except(s.all(), three) {
				x := s.with(func(x *api.State) {
					for _, zone := range s.all() {
						x.Counts.Live[zone] = 7
					}
					x.Counts.Live[three], x.Counts.Live[five] = 3, 5
				})
				holdChosen(t, x, three, 4+2, three, five)
			}
		}
	}
}

// TestReadme has what README.md does with a state of three full zones.
func TestReadme(t *testing.T) {
	s := api.State{
		Config: api.Config{Zones: 8, Size: 4, Blocks: 2, Queues: 1, Depth: 1, Shards: 1},
		Device: api.Device{Size: 4, MaxOpen: 3, MaxActive: 3, Zones: make([]api.Zone, 8)},
		Counts: api.Counts{Live: []int{0, 0, 3, 1, 2, 0, 0, 0}, Pending: make([]int, 8)},
		Pool:   api.Pool{Free: []int{5, 6, 7}, Host: -1, Cleaner: -1},
	}
	for _, zone := range []int{2, 3, 4} {
		s.Device.Zones[zone] = api.Zone{State: api.ZoneFull, Durable: 4, Sectors: sectorsOf(4)}
	}
	if n := victim.Used(s.Device, 3); n != 3 {
		t.Errorf("Used: %d", n)
	}
	if victim.Can(s, 2) || !victim.Can(s, 3) {
		t.Error("Can")
	}
	if zone, ok := victim.Choose(s); zone != 3 || !ok {
		t.Errorf("Choose: %d, %t", zone, ok)
	}
	if n := victim.Dead(s); n != 2+1 {
		t.Errorf("Dead: %d", n)
	}
	s.Epochs.Zones = []api.Retired{{Zone: 3}}
	if zone, ok := victim.Choose(s); zone != 4 || !ok {
		t.Errorf("Choose behind the retirement: %d, %t", zone, ok)
	}
}

// TestUsed has zones with each number of sectors, at each place.
func TestUsed(t *testing.T) {
	for _, size := range []int{3, 4, 5, 8, 63, 64} {
		for sectors, want := range map[int]int{
			0: 0, 1: 1, 2: 2, size - 2: size - 2, size - 1: size - 1, size: size - 1, size + 1: size + 1, size + 2: size + 2,
			2 * size: 2 * size, 2*size - 1: 2*size - 1,
		} {
			for _, place := range []int{0, 1, 4} {
				d := api.Device{Size: size, Zones: []api.Zone{full(2), full(2), full(2), full(2), full(2)}}
				d.Zones[place] = full(sectors)
				all := map[int]int{-1: 0, 5: 0, 0: 2, 1: 2, 2: 2, 3: 2, 4: 2}
				all[place] = want
				holdUsed(t, d, all)
			}
		}
	}
}

// TestUsedWrittenOut has the zones of one device, each with its number of records.
func TestUsedWrittenOut(t *testing.T) {
	d := api.Device{Size: 5}
	for n := range 8 {
		d.Zones = append(d.Zones, full(n))
	}
	holdUsed(t, d, map[int]int{-1: 0, 0: 0, 1: 1, 2: 2, 3: 3, 4: 4, 5: 4, 6: 6, 7: 7, 8: 0})
}

// TestUsedOfEach has zones of each State, which says nothing of how many records there are, with each Durable.
func TestUsedOfEach(t *testing.T) {
	for state := -1; state <= api.ZoneOffline+1; state++ {
		for durable := -1; durable <= 5; durable++ {
			d := api.Device{Size: 4, MaxOpen: 1, MaxActive: 1}
			for n := range 6 {
				d.Zones = append(d.Zones, api.Zone{State: state, Durable: durable, Sectors: sectorsOf(n)})
			}
			holdUsed(t, d, map[int]int{0: 0, 1: 1, 2: 2, 3: 3, 4: 3, 5: 5})
		}
	}
}

// TestUsedNoIndex has zones that are no indices, also of a device without zones.
func TestUsedNoIndex(t *testing.T) {
	none := map[int]int{-2: 0, -1: 0, math.MinInt: 0, math.MaxInt: 0}
	for _, zone := range far {
		none[zone] = 0
	}
	for n := range 40 {
		d := api.Device{Size: 4, Zones: slices.Repeat([]api.Zone{full(4)}, n)}
		none[n], none[n+1] = 0, 0
		holdUsed(t, d, none)
		delete(none, n)
		for zone := range n {
			holdUsed(t, d, map[int]int{zone: 3})
		}
	}
	holdUsed(t, api.Device{}, none)
	holdUsed(t, api.Device{Zones: []api.Zone{}}, none)
	holdUsed(t, api.Device{Size: 4, Zones: []api.Zone{}}, map[int]int{-1: 0, 0: 0, 1: 0})
}

// TestUsedSizes has devices of other sizes, also such as no device may have.
func TestUsedSizes(t *testing.T) {
	for size, want := range map[int]int{
		3: 3, 4: 3, 5: 4, 6: 4, 64: 4, 2: 4, 1: 4, -1: 4, -4: 4, 4 - 256: 4, 4 + 256: 4, 4 + 1<<32: 4, math.MinInt: 4, math.MaxInt: 4,
	} {
		d := api.Device{Size: size, Zones: []api.Zone{full(3), full(4)}}
		if size != 3 && size != 4 {
			holdUsed(t, d, map[int]int{0: 3, 1: want})
		}
	}
	holdUsed(t, api.Device{Size: 3, Zones: []api.Zone{full(3), full(4)}}, map[int]int{0: 2, 1: 4})
	holdUsed(t, api.Device{Size: 4, Zones: []api.Zone{full(3), full(4)}}, map[int]int{0: 3, 1: 3})
	holdUsed(t, api.Device{Size: 1, Zones: []api.Zone{full(0), full(1), full(2)}}, map[int]int{0: 0, 1: 0, 2: 2})
	holdUsed(t, api.Device{Size: 2, Zones: []api.Zone{full(0), full(1), full(2)}}, map[int]int{0: 0, 1: 1, 2: 1})
	holdUsed(t, api.Device{Size: 0, Zones: []api.Zone{full(0), full(1)}}, map[int]int{0: -1, 1: 1}) // P14.1, literally
}

// TestUsedSizeOfDevice has states whose configuration has another size than the device: that of the device counts for Used.
func TestUsedSizeOfDevice(t *testing.T) {
	for _, s := range shapes {
		x := s.state()
		x.Device.Size++
		holdUsed(t, x.Device, map[int]int{0: s.c.Size, s.first: s.c.Size, s.last: s.c.Size})
		x.Device.Size--
		holdUsed(t, x.Device, map[int]int{0: s.c.Size - 1, s.first: s.c.Size - 1, s.last: s.c.Size - 1})
	}
}

// lively is a state of which all data zones have so many live records, but for some zones.
func (s shape) lively(live int, but map[int]int) api.State {
	return s.with(func(x *api.State) {
		for _, zone := range s.all() {
			x.Counts.Live[zone] = live
		}
		for zone, n := range but {
			x.Counts.Live[zone] = n
		}
	})
}

// TestChooseNone has states without a victim.
func TestChooseNone(t *testing.T) {
	for _, s := range shapes {
		for _, live := range []int{s.c.Size - 1, s.c.Size, s.c.Size + 1, api.MaxVersion, math.MaxInt} {
			holdChosen(t, s.lively(live, nil), -1, 0)
		}
		holdChosen(t, s.with(func(x *api.State) { x.Device.Zones = nil }), -1, 0)
		holdChosen(t, s.with(func(x *api.State) { x.Counts = api.Counts{} }), -1, 0)
		holdChosen(t, s.with(func(x *api.State) {
			for i := range x.Device.Zones {
				x.Device.Zones[i] = api.Zone{}
			}
		}), -1, 0)
	}
	holdChosen(t, api.State{}, -1, 0)
}

// TestChooseOne has states with one victim: the first data zone, a middle one, the last one, and each other one.
func TestChooseOne(t *testing.T) {
	for _, s := range shapes {
		for _, zone := range s.all() {
			for _, live := range []int{0, 1, s.c.Size - 2} {
				x := s.lively(s.c.Size-1, map[int]int{zone: live})
				holdChosen(t, x, zone, s.c.Size-1-live, zone)
			}
		}
	}
}

// TestChooseEqual has states with several victims that have equally many live records: the first one is chosen.
func TestChooseEqual(t *testing.T) {
	for _, s := range shapes {
		most := s.c.Size - 1
		for _, live := range []int{0, 1, s.c.Size - 2} {
			holdChosen(t, s.lively(live, nil), s.first, len(s.all())*(most-live), s.all()...)
			for _, a := range s.all() {
				for _, b := range except(s.ends(), a) {
					holdChosen(t, s.lively(most, map[int]int{a: live, b: live}), min(a, b), 2*(most-live), a, b)
				}
			}
			for _, zone := range s.ends() { // where all but one are equal
				x := s.lively(live, map[int]int{zone: most})
				rest := except(s.all(), zone)
				holdChosen(t, x, rest[0], len(rest)*(most-live), rest...)
			}
		}
	}
}

// TestChooseLeast has the least number of live records at each place among zones that have more, in all orders of three numbers.
func TestChooseLeast(t *testing.T) {
	for _, s := range shapes {
		most := s.c.Size - 1
		for _, zone := range s.all() {
			x := s.lively(1, map[int]int{zone: 0})
			holdChosen(t, x, zone, len(s.all())*(most-1)+1, s.all()...)
			x = s.lively(0, map[int]int{zone: -1})
			holdChosen(t, x, zone, len(s.all())*most+1, s.all()...)
		}
		a, b, c := s.ends()[0], s.ends()[1], s.ends()[2]
		for _, p := range [][3]int{{a, b, c}, {a, c, b}, {b, a, c}, {b, c, a}, {c, a, b}, {c, b, a}} {
			x := s.lively(most, map[int]int{p[0]: -2, p[1]: 0, p[2]: 1})
			holdChosen(t, x, p[0], 3*most+2-0-1, a, b, c)
		}
	}
}

// TestChooseOrders has numbers that rise, fall, rise and fall, and numbers of which the least stands twice.
func TestChooseOrders(t *testing.T) {
	s := shape{config(12, 8, 6, 1), 2, 11}
	for _, x := range []struct {
		live         []int
		chosen, dead int
	}{
		{[]int{0, 1, 2, 3, 4, 5, 6, 7, 8, 9}, 2, 7 + 6 + 5 + 4 + 3 + 2 + 1},
		{[]int{9, 8, 7, 6, 5, 4, 3, 2, 1, 0}, 11, 7 + 6 + 5 + 4 + 3 + 2 + 1},
		{[]int{6, 5, 4, 3, 2, 3, 4, 5, 6, 7}, 6, 1 + 2 + 3 + 4 + 5 + 4 + 3 + 2 + 1},
		{[]int{2, 3, 4, 5, 6, 5, 4, 3, 2, 1}, 11, 5 + 4 + 3 + 2 + 1 + 2 + 3 + 4 + 5 + 6},
		{[]int{7, 3, 7, 7, 3, 7, 7, 7, 7, 7}, 3, 4 + 4},
		{[]int{7, 7, 7, 7, 7, 7, 7, 7, 6, 6}, 10, 1 + 1},
		{[]int{6, 6, 6, 6, 5, 6, 6, 6, 5, 6}, 6, 8 + 2*2},
		{[]int{8, 9, 7, 10, 64, 6, 7, 7, 7, 7}, 7, 1},
		{[]int{4, 4, 4, 4, 4, 4, 4, 4, 4, 4}, 2, 30},
		{[]int{0, 0, 0, 0, 0, 0, 0, 0, 0, 0}, 2, 70},
		{[]int{-3, 0, 0, 0, 0, 0, 0, 0, 0, -4}, 11, 77},
	} {
		but, can := map[int]int{}, []int(nil)
		for i, live := range x.live {
			but[i+2] = live
			if live < 7 {
				can = append(can, i+2)
			}
		}
		holdChosen(t, s.lively(7, but), x.chosen, x.dead, can...)
	}
}

// TestChooseBeside has a zone with less Live that can't be a victim beside one with more that can.
func TestChooseBeside(t *testing.T) {
	for _, s := range shapes {
		most := s.c.Size - 1
		for _, a := range s.ends() {
			for _, b := range except(s.ends(), a) {
				for _, spoil := range spoils {
					x := s.lively(most, map[int]int{a: 0, b: 1})
					holdChosen(t, x, a, most+most-1, a, b)
					spoil(&x, a)
					holdChosen(t, x, b, most-1, b)
				}
			}
		}
		// What is no data zone is none, however few its live records are.
		x := s.lively(s.c.Size-2, nil)
		for _, zone := range slices.Concat(zones(0, s.first-1), zones(s.last+1, s.last+extra)) {
			x.Counts.Live[zone] = -1
		}
		holdChosen(t, x, s.first, len(s.all()), s.all()...)
	}
}
