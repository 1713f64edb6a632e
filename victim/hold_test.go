package victim_test

import (
	"math"
	"reflect"
	"slices"
	"strings"
	"testing"

	"zoneappend/api"
	"zoneappend/victim"
)

// far are numbers that no zone has. Some of them are one in their lowest bits.
var far = []int{
	-3, -8, -32, -255, -256, 8 - 256, -1 << 32, 3 - 1<<32, 8 - 1<<32, -1 << 62, math.MinInt, math.MinInt + 1, math.MinInt + 8,
	64, 255, 256, 256 + 8, 1 << 31, 1<<32 - 1, 1 << 32, 1<<32 + 3, 1<<32 + 8, 1 << 40, 1 << 62, 1<<62 + 8, math.MaxInt - 1, math.MaxInt,
}

// shape is a configuration with its first and its last data zone.
type shape struct {
	c           api.Config
	first, last int
}

// config is a configuration with two commands for each queue, and three shards.
func config(zones, size, blocks, queues int) api.Config {
	return api.Config{Zones: zones, Size: size, Blocks: blocks, Queues: queues, Depth: 2, Shards: 3}
}

// small is a shape with as few data zones as there can be.
var small = shape{config(8, 3, 1, 2), 2, 7}

// shapes are possible configurations, with as few and as many data zones as there can be among them, and with the least and the
// greatest zones.
var shapes = []shape{
	small,
	{config(12, 8, 6, 1), 2, 11},
	{config(20, 3, 8, 2), 8, 19},
	{config(32, 3, 37, 4), 26, 31},
	{config(32, 64, 128, 4), 6, 31},
	{config(32, 64, 1, 1), 2, 31},
	{api.Config{Zones: 16, Size: 5, Blocks: 14, Queues: 3, Depth: 8, Shards: 8}, 8, 15},
	{api.Config{Zones: 9, Size: 9, Blocks: 7, Queues: 1, Depth: 1, Shards: 1}, 2, 8},
}

// extra is how many zones the device of a state has beside those of the configuration.
const extra = 3

// zones are the numbers of some zones, from the first to the last one.
func zones(first, last int) []int {
	var l []int
	for zone := first; zone <= last; zone++ {
		l = append(l, zone)
	}
	return l
}

// all are the data zones of a shape.
func (s shape) all() []int { return zones(s.first, s.last) }

// ends are the first, a middle and the last data zone of a shape.
func (s shape) ends() []int { return []int{s.first, (s.first + s.last) / 2, s.last} }

// strangers are numbers that no data zone of a shape has: those of the slots, -1 and -2, and what is behind the last zone.
func (s shape) strangers() []int {
	return slices.Concat(far, zones(-2, s.first-1), zones(s.last+1, s.last+extra+2))
}

// except are zones without some of them.
func except(l []int, gone ...int) []int {
	return slices.DeleteFunc(slices.Clone(l), func(zone int) bool { return slices.Contains(gone, zone) })
}

// full is a zone that is full, with some sectors.
func full(sectors int) api.Zone {
	return api.Zone{State: api.ZoneFull, Durable: sectors, Sectors: sectorsOf(sectors)}
}

// sectorsOf are some sectors.
func sectorsOf(n int) []string {
	return slices.Repeat([]string{strings.Repeat("s", api.SectorBytes)}, n)
}

// state is a state in which every zone would be a victim, if it were a data zone: also those of the slots, and some behind the
// last one.
func (s shape) state() api.State {
	n := s.c.Zones + extra
	x := api.State{Config: s.c, Pool: api.Pool{Host: -1, Cleaner: -1}}
	x.Device = api.Device{Size: s.c.Size, MaxOpen: 3, MaxActive: 3}
	for range n {
		x.Device.Zones = append(x.Device.Zones, full(s.c.Size))
	}
	x.Counts = api.Counts{Live: make([]int, n), Pending: make([]int, n)}
	x.Epochs = api.Epochs{Pins: slices.Repeat([]int{-1}, s.c.Queues)}
	return x
}

// with is the state of a shape after a change.
func (s shape) with(change func(x *api.State)) api.State {
	x := s.state()
	change(&x)
	return x
}

// copied is a device of its own that is equal.
func copied(d api.Device) api.Device {
	d.Zones = slices.Clone(d.Zones)
	for i, z := range d.Zones {
		d.Zones[i].Sectors = slices.Clone(z.Sectors)
	}
	return d
}

// own is a state that is equal, with lists of its own.
func own(s api.State) api.State {
	s.Device = copied(s.Device)
	s.Counts = api.Counts{Live: slices.Clone(s.Counts.Live), Pending: slices.Clone(s.Counts.Pending)}
	s.Epochs.Pins, s.Epochs.Zones = slices.Clone(s.Epochs.Pins), slices.Clone(s.Epochs.Zones)
	s.Pool.Free = slices.Clone(s.Pool.Free)
	return s
}

// room is memory that is longer than the lists of a state that lie in it.
type room struct {
	zones         []api.Zone
	sectors       [][]string
	live, pending []int
	retired       []api.Retired
	free          []int
}

// inside is a list between other elements, and all of them.
func inside[E any](l []E, before, behind E) (whole, list []E) {
	whole = slices.Concat([]E{before}, l, []E{behind, before})
	return whole, whole[1 : 1+len(l)]
}

// placed is an equal state whose lists lie between elements that would matter, and have room behind their ends.
func placed(s api.State) (api.State, *room) {
	r := &room{}
	s = own(s)
	for i, z := range s.Device.Zones {
		var whole []string
		whole, s.Device.Zones[i].Sectors = inside(z.Sectors, "before", "behind")
		r.sectors = append(r.sectors, whole)
	}
	r.zones, s.Device.Zones = inside(s.Device.Zones, full(1), full(s.Device.Size&63))
	r.live, s.Counts.Live = inside(s.Counts.Live, -7, -8)
	r.pending, s.Counts.Pending = inside(s.Counts.Pending, 0, 0)
	r.retired, s.Epochs.Zones = inside(s.Epochs.Zones, api.Retired{Zone: s.Config.Zones - 1}, api.Retired{Zone: s.Config.Zones - 2})
	r.free, s.Pool.Free = inside(s.Pool.Free, 2, 3)
	return s, r
}

// held is a copy of memory.
func (r *room) held() *room {
	c := &room{
		zones: copied(api.Device{Zones: r.zones}).Zones, live: slices.Clone(r.live), pending: slices.Clone(r.pending),
		retired: slices.Clone(r.retired), free: slices.Clone(r.free),
	}
	for _, l := range r.sectors {
		c.sectors = append(c.sectors, slices.Clone(l))
	}
	return c
}

// holdStay expects that a state, and all that is before and behind its lists in memory, is behind calls as it was.
func holdStay(t *testing.T, s api.State, use func(s api.State)) {
	t.Helper()
	given, r := placed(s)
	before, state := r.held(), own(given)
	use(given)
	if !reflect.DeepEqual(r, before) || !reflect.DeepEqual(given, state) {
		t.Fatalf("%+v\nbecame %+v", before, r)
	}
	use(s)
}

// holdUsed expects what Used says of zones of a device, each with its number.
func holdUsed(t *testing.T, d api.Device, want map[int]int) {
	t.Helper()
	holdStay(t, api.State{Device: d}, func(s api.State) {
		t.Helper()
		for zone, n := range want {
			if got := victim.Used(s.Device, zone); got != n {
				t.Fatalf("Used of %d of %+v: %d, want %d", zone, s.Device, got, n)
			}
		}
	})
}

// near are the numbers of all zones of a state, and some before and behind them.
func near(s api.State) []int {
	longest := max(len(s.Device.Zones), len(s.Counts.Live), len(s.Counts.Pending), min(s.Config.Zones, 40))
	return slices.Concat(zones(-2, longest+2), far)
}

// holdChosen expects which zones can be victims, which one is chosen of them (-1: none), and how many records are dead.
func holdChosen(t *testing.T, s api.State, chosen, dead int, can ...int) {
	t.Helper()
	holdStay(t, s, func(s api.State) {
		t.Helper()
		for _, zone := range near(s) {
			if victim.Can(s, zone) != slices.Contains(can, zone) {
				t.Fatalf("Can of %d of %+v: %t", zone, s, victim.Can(s, zone))
			}
		}
		zone, ok := victim.Choose(s)
		if ok != (chosen >= 0) || zone != max(chosen, 0) {
			t.Fatalf("Choose of %+v: %d, %t, want %d", s, zone, ok, chosen)
		}
		if n := victim.Dead(s); n != dead {
			t.Fatalf("Dead of %+v: %d, want %d", s, n, dead)
		}
	})
}

// holdCan expects which zones can be victims. Which one is chosen of them, and how many records are dead, is as the second reading
// of the chapter says.
func holdCan(t *testing.T, s api.State, can ...int) {
	t.Helper()
	if want := expectVictims(s); !slices.Equal(want, can) {
		t.Fatalf("%+v: the second reading says %v, the test %v", s, want, can)
	}
	holdExpected(t, s)
}

// holdExpected holds all calls of a state against the second reading of the chapter.
func holdExpected(t *testing.T, s api.State) {
	t.Helper()
	zone, ok := expectChoose(s)
	if !ok {
		zone = -1
	}
	holdChosen(t, s, zone, expectDead(s), expectVictims(s)...)
	want := map[int]int{}
	for _, zone := range near(s) {
		want[zone] = expectUsed(s.Device, zone)
	}
	holdUsed(t, s.Device, want)
}

// holdFast holds the calls of a state, of some zones, against the second reading of the chapter. The state must have lists of its own.
func holdFast(t *testing.T, s api.State, some ...int) {
	t.Helper()
	can := expectVictims(s)
	for _, zone := range some {
		if victim.Can(s, zone) != slices.Contains(can, zone) {
			t.Fatalf("Can of %d of %+v: %t", zone, s, victim.Can(s, zone))
		}
	}
	want, there := expectChoose(s)
	if zone, ok := victim.Choose(s); zone != want || ok != there {
		t.Fatalf("Choose of %+v: %d, %t, want %d, %t", s, zone, ok, want, there)
	}
	if n := victim.Dead(s); n != expectDead(s) {
		t.Fatalf("Dead of %+v: %d, want %d", s, n, expectDead(s))
	}
}
