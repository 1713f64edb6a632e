package victim_test

import (
	"math"
	"slices"
	"testing"

	"zoneappend/api"
)

// spoils are ways in which a data zone can't be a victim any more, while all others stay what they are.
var spoils = []func(x *api.State, zone int){
	func(x *api.State, zone int) { x.Device.Zones[zone] = api.Zone{} },
	func(x *api.State, zone int) { x.Device.Zones[zone].State = api.ZoneOpen },
	func(x *api.State, zone int) { x.Device.Zones[zone].State = api.ZoneHeld },
	func(x *api.State, zone int) { x.Device.Zones[zone].State = api.ZoneClosed },
	func(x *api.State, zone int) { x.Device.Zones[zone].State = api.ZoneOffline },
	func(x *api.State, zone int) { x.Counts.Pending[zone] = 1 },
	func(x *api.State, zone int) { x.Pool.Host = zone },
	func(x *api.State, zone int) { x.Pool.Cleaner = zone },
	func(x *api.State, zone int) { x.Epochs.Zones = []api.Retired{{Zone: zone}} },
}

// TestCanAll has states in which all data zones can be victims, and nothing else.
func TestCanAll(t *testing.T) {
	for _, s := range shapes {
		x := s.state()
		holdCan(t, x, s.all()...)
		holdChosen(t, x, s.first, len(s.all())*(s.c.Size-1), s.all()...)
		for _, zone := range s.strangers() {
			if slices.Contains(s.all(), zone) {
				t.Fatalf("%+v: %d is a data zone", s, zone)
			}
		}
	}
}

// TestCanShort has lists that are as long as the configuration says, longer, one shorter, and of all other lengths: a zone without an
// element can't be a victim, all others can.
func TestCanShort(t *testing.T) {
	for _, s := range shapes {
		for n := range s.c.Zones + extra + 1 {
			can := zones(s.first, min(n-1, s.last))
			for _, change := range []func(x *api.State){
				func(x *api.State) { x.Device.Zones = x.Device.Zones[:n] },
				func(x *api.State) { x.Counts.Live = x.Counts.Live[:n] },
				func(x *api.State) { x.Counts.Pending = x.Counts.Pending[:n] },
				func(x *api.State) {
					x.Device.Zones, x.Counts.Live, x.Counts.Pending = x.Device.Zones[:n], x.Counts.Live[:n], x.Counts.Pending[:n]
				},
			} {
				holdCan(t, s.with(change), can...)
			}
		}
		holdCan(t, s.with(func(x *api.State) { x.Device.Zones = nil }))
		holdCan(t, s.with(func(x *api.State) { x.Counts.Live = nil }))
		holdCan(t, s.with(func(x *api.State) { x.Counts.Pending = nil }))
	}
}

// TestCanLong has lists that are much longer than the configuration says: the data zones are those of the configuration.
func TestCanLong(t *testing.T) {
	for _, s := range shapes {
		holdCan(t, s.with(func(x *api.State) {
			x.Device.Zones = append(x.Device.Zones, slices.Repeat([]api.Zone{full(2)}, 300)...)
			x.Counts.Live = append(x.Counts.Live, make([]int, 300)...)
			x.Counts.Pending = append(x.Counts.Pending, make([]int, 300)...)
		}), s.all()...)
	}
}

// TestCanState has each State of a zone, and numbers that are none.
func TestCanState(t *testing.T) {
	for _, s := range shapes {
		for _, zone := range s.ends() {
			rest := except(s.all(), zone)
			for _, state := range slices.Concat(far, []int{0, 1, 2, 3, 5, 6, 7, -1, -2, -4, 4 + 256, 4 - 256, 4 + 1<<32, 4 - 1<<32}) {
				holdCan(t, s.with(func(x *api.State) { x.Device.Zones[zone].State = state }), rest...)
				holdCan(t, s.with(func(x *api.State) { x.Device.Zones[zone] = api.Zone{State: state} }), rest...)
			}
			holdCan(t, s.with(func(x *api.State) { x.Device.Zones[zone].State = 4 }), s.all()...)
		}
	}
}

// TestCanPending has a Pending of 1, of -1, and of more and less.
func TestCanPending(t *testing.T) {
	for _, s := range shapes {
		for _, zone := range s.ends() {
			for _, n := range slices.Concat(far, []int{-1, -2, 1, 2, 3, s.c.Size - 2, s.c.Size - 1, s.c.Size, api.MaxVersion}) {
				holdCan(t, s.with(func(x *api.State) { x.Counts.Pending[zone] = n }), except(s.all(), zone)...)
			}
		}
		for _, zone := range []int{0, s.first - 1, s.last + 1} { // of a zone that is no data zone it is nothing
			holdCan(t, s.with(func(x *api.State) { x.Counts.Pending[zone] = 1 }), s.all()...)
		}
	}
}

// TestCanLane has the lanes of the host and of the cleaner: one of them, both, both the same zone, and such as are no data zones.
func TestCanLane(t *testing.T) {
	for _, s := range shapes {
		lane := func(host, cleaner int) api.State {
			return s.with(func(x *api.State) { x.Pool.Host, x.Pool.Cleaner = host, cleaner })
		}
		for _, zone := range s.all() {
			holdCan(t, lane(zone, -1), except(s.all(), zone)...)
			holdCan(t, lane(-1, zone), except(s.all(), zone)...)
			holdCan(t, lane(zone, zone), except(s.all(), zone)...)
			for _, other := range s.ends() {
				holdCan(t, lane(zone, other), except(s.all(), zone, other)...)
			}
		}
		for _, zone := range s.strangers() {
			holdCan(t, lane(zone, -1), s.all()...)
			holdCan(t, lane(-1, zone), s.all()...)
			holdCan(t, lane(zone, s.first), s.all()[1:]...)
		}
	}
}

// TestCanFree has free zones that are full: nothing is said of them, so they can be victims.
func TestCanFree(t *testing.T) {
	for _, s := range shapes {
		for _, free := range [][]int{{s.first}, {s.last}, s.all(), {0, -1, 99}} {
			holdCan(t, s.with(func(x *api.State) { x.Pool.Free = free }), s.all()...)
		}
	}
}

// TestCanRetired has a zone that is retired as the first, a middle and the last one in the list, alone, and twice, in all epochs.
func TestCanRetired(t *testing.T) {
	for _, s := range shapes {
		all := s.all()
		for _, zone := range s.ends() {
			a, b := except(all, zone)[0], except(all, zone)[2]
			for _, list := range [][]int{
				{zone}, {zone, zone}, {zone, a, b}, {a, zone, b}, {a, b, zone}, {b, zone}, {zone, b}, {zone, a, a, zone}, {-1, zone, 99},
				{0, s.first - 1, zone, s.last + 1, math.MinInt, math.MaxInt},
			} {
				for _, epoch := range []int{-1, 0, 1, 4, 5, zone, math.MinInt, math.MaxInt} {
					holdCan(t, s.with(func(x *api.State) {
						x.Epochs.Global = 4
						for _, r := range list {
							x.Epochs.Zones = append(x.Epochs.Zones, api.Retired{Zone: r, Epoch: epoch})
						}
					}), except(all, list...)...)
				}
			}
		}
		holdCan(t, s.with(func(x *api.State) {
			for _, zone := range s.strangers() {
				x.Epochs.Zones = append(x.Epochs.Zones, api.Retired{Zone: zone, Epoch: s.first})
			}
		}), all...)
		holdCan(t, s.with(func(x *api.State) {
			for _, zone := range all {
				x.Epochs.Zones = append(x.Epochs.Zones, api.Retired{Zone: zone})
			}
		}))
		holdCan(t, s.with(func(x *api.State) { // pins say nothing of zones
			x.Epochs.Pins = all
			x.Epochs.Global = s.first
		}), all...)
	}
}

// TestCanLive has zones with each number of live records at and behind the limit.
func TestCanLive(t *testing.T) {
	for _, s := range shapes {
		for _, zone := range s.ends() {
			rest := except(s.all(), zone)
			dead := len(rest) * (s.c.Size - 1)
			live := func(n int) api.State {
				return s.with(func(x *api.State) { x.Counts.Live[zone] = n })
			}
			holdChosen(t, live(s.c.Size-2), except(s.all(), zone)[0], dead+1, s.all()...)
			holdChosen(t, live(s.c.Size-1), rest[0], dead, rest...)
			holdChosen(t, live(s.c.Size), rest[0], dead, rest...)
			holdChosen(t, live(0), s.first, dead+s.c.Size-1, s.all()...)
			holdChosen(t, live(-1), zone, dead+s.c.Size, s.all()...)
			holdChosen(t, live(-1<<40), zone, dead+s.c.Size-1+1<<40, s.all()...)
			for _, n := range far {
				if n < 0 {
					holdCan(t, live(n), s.all()...)
				} else {
					holdCan(t, live(n), rest...)
				}
			}
		}
	}
}

// TestCanFinished has zones that were finished early, also such as have nothing but live records: they can be victims.
func TestCanFinished(t *testing.T) {
	for _, s := range shapes {
		most := s.c.Size - 1
		for _, zone := range s.ends() {
			for sectors := range s.c.Size + 3 {
				x := s.lively(most, map[int]int{zone: min(sectors, most)})
				x.Device.Zones[zone] = full(sectors)
				if sectors < most {
					holdChosen(t, x, zone, most-sectors, zone)
				} else {
					holdChosen(t, x, -1, 0)
				}
				x.Counts.Live[zone] = 0
				holdChosen(t, x, zone, most, zone)
			}
		}
	}
}

// TestCanSize has devices whose Size is not that of the configuration: the limit is that of the configuration.
func TestCanSize(t *testing.T) {
	for _, s := range shapes {
		for _, size := range slices.Concat(far, []int{-1, 0, 1, 2, 3, s.c.Size - 1, s.c.Size + 1, s.c.Size + 2}) {
			for _, zone := range s.ends() {
				x := s.lively(s.c.Size-1, map[int]int{zone: s.c.Size - 2})
				x.Device.Size = size
				holdChosen(t, x, zone, 1, zone)
			}
		}
		bigger := s.c
		bigger.Size++
		if bigger.Size <= api.MaxSize {
			x := s.lively(s.c.Size-1, nil)
			x.Config = bigger
			holdCan(t, x, zones(expectFirst(bigger), s.last)...)
		}
	}
}

// TestCanConfig has configurations that are not possible: each number below and above its range, and too few data zones.
func TestCanConfig(t *testing.T) {
	for _, s := range shapes {
		for _, x := range []struct {
			number      func(c *api.Config) *int
			least, most int
		}{
			{func(c *api.Config) *int { return &c.Zones }, 1, api.MaxZones},
			{func(c *api.Config) *int { return &c.Size }, api.MinSize, api.MaxSize},
			{func(c *api.Config) *int { return &c.Blocks }, 1, api.MaxBlocks},
			{func(c *api.Config) *int { return &c.Queues }, 1, api.MaxQueues},
			{func(c *api.Config) *int { return &c.Depth }, 1, api.MaxDepth},
			{func(c *api.Config) *int { return &c.Shards }, 1, api.MaxShards},
		} {
			for _, n := range []int{x.least - 1, 0, -1, x.most + 1, 1 << 32, math.MinInt, math.MaxInt} {
				holdCan(t, s.with(func(y *api.State) { *x.number(&y.Config) = n }))
			}
		}
		few := s.c
		few.Zones = s.first + api.Reserve + 3
		holdCan(t, s.with(func(x *api.State) { x.Config = few }))
		few.Zones++
		holdCan(t, s.with(func(x *api.State) { x.Config = few }), zones(s.first, s.first+api.Reserve+3)...)
		holdCan(t, s.with(func(x *api.State) { x.Config = api.Config{} }))
	}
}

// expectFirst is the first data zone of a configuration.
func expectFirst(c api.Config) int {
	return 2 * ((c.Blocks + 2 + c.Size - 1) / c.Size)
}

// TestCanOther has states that differ in what the chapter does not look at.
func TestCanOther(t *testing.T) {
	for _, s := range shapes {
		holdCan(t, s.with(func(x *api.State) {
			x.Device.MaxOpen, x.Device.MaxActive = 0, -1
			for i := range x.Device.Zones {
				x.Device.Zones[i].Durable = -i
			}
			x.Map = api.Map{Shards: [][]api.Entry{{{Place: api.Place{Zone: s.first}}}}}
			x.Locks = api.Locks{Owner: []int{3}}
			x.Rings = []api.Ring{{Depth: -1}}
			x.Workers = []api.Worker{{State: api.WorkInstall, Entry: api.Entry{Place: api.Place{Zone: s.last}}}}
			x.Cleaner = api.Cleaner{State: api.CleanLook, Victim: s.first, Place: api.Place{Zone: s.last}}
			x.Saver = api.Saver{State: api.SaveReset, Slot: 1}
			x.Next, x.Serial, x.Sequence, x.Slot, x.Closed = -1, -1, -1, 2, true
		}), s.all()...)
	}
}
