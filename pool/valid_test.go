package pool_test

import (
	"slices"
	"testing"

	"zoneappend/api"
	"zoneappend/layout"
)

// samples are free zones of a shape: none, one, some, and all.
func (s shape) samples() [][]int {
	all, middle := s.all(), (s.first+s.last)/2
	var odd []int
	for i, zone := range all {
		if i%2 == 1 {
			odd = append(odd, zone)
		}
	}
	return [][]int{nil, {s.first}, {middle}, {s.last}, {s.first, s.last}, {s.first, middle, s.last}, odd,
		except(all, s.first), except(all, middle), except(all, s.last), all}
}

// pairs are lanes that a pool with these free zones may have: none, one of both, and both.
func (s shape) pairs(free []int) [][2]int {
	l := [][2]int{{-1, -1}}
	rest := except(s.all(), free...)
	for _, i := range ends(len(rest)) {
		l = append(l, [2]int{rest[i], -1}, [2]int{-1, rest[i]})
		for _, j := range ends(len(rest)) {
			if i != j {
				l = append(l, [2]int{rest[i], rest[j]})
			}
		}
	}
	return l
}

// pools are valid pools of a shape.
func (s shape) pools() []api.Pool {
	var l []api.Pool
	for _, free := range s.samples() {
		for _, pair := range s.pairs(free) {
			l = append(l, of(pair[0], pair[1], free...))
		}
	}
	return l
}

// TestShapes holds the shapes against the layouts of their configurations, and against what they are there for.
func TestShapes(t *testing.T) {
	least, greatest := 32, 0
	for _, s := range shapes {
		if l, err := layout.Of(s.c); err != api.OK || l.First != s.first || l.First+l.Data-1 != s.last {
			t.Errorf("%+v: %+v, %d", s, l, err)
		}
		least, greatest = min(least, len(s.all())), max(greatest, len(s.all()))
	}
	if least != api.Reserve+4 || greatest != api.MaxZones-2 {
		t.Errorf("%d to %d data zones", least, greatest)
	}
}

// TestValid has valid pools: no free zone, one, some and all, with each lane and without.
func TestValid(t *testing.T) {
	for _, s := range shapes {
		for _, p := range s.pools() {
			holdValid(t, p, s.c, true)
		}
		for _, zone := range s.all() {
			holdValid(t, of(-1, -1, zone), s.c, true)
			holdValid(t, of(zone, -1), s.c, true)
			holdValid(t, of(-1, zone), s.c, true)
			holdValid(t, of(zone, -1, except(s.all(), zone)...), s.c, true)
			holdValid(t, of(-1, zone, except(s.all(), zone)...), s.c, true)
		}
	}
}

// fields are the numbers of a configuration, with the least and the greatest value of each.
var fields = []struct {
	least, greatest int
	set             func(c *api.Config, n int)
}{
	{3, 64, func(c *api.Config, n int) { c.Size = n }},
	{1, 32, func(c *api.Config, n int) { c.Zones = n }},
	{1, 128, func(c *api.Config, n int) { c.Blocks = n }},
	{1, 4, func(c *api.Config, n int) { c.Queues = n }},
	{1, 8, func(c *api.Config, n int) { c.Depth = n }},
	{1, 8, func(c *api.Config, n int) { c.Shards = n }},
}

// impossible are configurations that are not possible for one reason each: one number is out of its range.
func (s shape) impossible() []api.Config {
	var l []api.Config
	for _, f := range fields {
		for _, n := range slices.Concat([]int{f.least - 1, f.greatest + 1, 0, -1}, far) {
			if n < f.least || n > f.greatest {
				c := s.c
				f.set(&c, n)
				l = append(l, c)
			}
		}
	}
	return l
}

// TestImpossible has configurations in which one number is out of its range, with pools that are valid for the others.
func TestImpossible(t *testing.T) {
	for _, s := range shapes {
		middle := (s.first + s.last) / 2
		for _, p := range []api.Pool{of(-1, -1), of(-1, -1, s.all()...), of(middle, s.first, except(s.all(), middle, s.first)...)} {
			holdValid(t, p, s.c, true)
			for _, c := range s.impossible() {
				refuse(t, p, c)
			}
		}
	}
}

// TestTooFewDataZones has configurations with up to five data zones, and pools that have no others.
func TestTooFewDataZones(t *testing.T) {
	for _, s := range shapes {
		for n := range 6 {
			few := s.c
			few.Zones = s.first + n
			for _, free := range subsets(zones(s.first, s.first+n-1)) {
				holdValid(t, of(-1, -1, free...), s.c, true)
				refuse(t, of(-1, -1, free...), few)
				refuse(t, of(s.first, s.first+1, except(free, s.first, s.first+1)...), few)
			}
		}
	}
}

// TestNothing has pools, the least one too, without a configuration.
func TestNothing(t *testing.T) {
	refuse(t, api.Pool{}, api.Config{})
	for _, p := range small.pools() {
		refuse(t, p, api.Config{})
	}
}

// TestZero has the pool whose lanes are the zone 0, which is never a data zone.
func TestZero(t *testing.T) {
	for _, s := range shapes {
		refuse(t, api.Pool{}, s.c)
		refuse(t, of(0, 0, s.all()...), s.c)
		refuse(t, of(0, -1), s.c)
		refuse(t, of(-1, 0), s.c)
	}
}

// TestOrder has free zones that do not ascend strictly: two equal ones side by side, and two in the wrong order, at the first, a
// middle and the last place.
func TestOrder(t *testing.T) {
	for _, s := range shapes {
		for _, free := range s.samples() {
			for _, pair := range s.pairs(free) {
				for _, i := range ends(len(free)) {
					twice := slices.Insert(slices.Clone(free), i, free[i])
					refuse(t, of(pair[0], pair[1], twice...), s.c)
				}
				for _, i := range ends(len(free) - 1) {
					swapped := slices.Clone(free)
					swapped[i], swapped[i+1] = swapped[i+1], swapped[i]
					refuse(t, of(pair[0], pair[1], swapped...), s.c)
				}
			}
		}
	}
}

// TestOrderFarApart has free zones of which only two that are not side by side are equal, or in the wrong order.
func TestOrderFarApart(t *testing.T) {
	for _, s := range shapes {
		all := s.all()
		refuse(t, of(-1, -1, append(s.all(), s.first)...), s.c)
		refuse(t, of(-1, -1, append([]int{s.last}, all...)...), s.c)
		refuse(t, of(-1, -1, s.first, s.last, s.first), s.c)
		refuse(t, of(-1, -1, s.last, s.first, s.last), s.c)
		refuse(t, of(-1, -1, s.first+2, s.first+3, s.first, s.first+1), s.c)
		slices.Reverse(all)
		refuse(t, of(-1, -1, all...), s.c)
		refuse(t, of(-1, -1, slices.Repeat([]int{s.last}, 40)...), s.c)
		refuse(t, of(-1, -1, slices.Concat(s.all(), s.all())...), s.c)
	}
}

// TestFreeStrangers has a free zone that is no data zone, alone, and at the first, a middle and the last place.
func TestFreeStrangers(t *testing.T) {
	for _, s := range shapes {
		for _, zone := range s.strangers() {
			refuse(t, of(-1, -1, zone), s.c)
			for _, free := range s.samples() {
				for _, i := range ends(len(free)) {
					wrong := slices.Clone(free)
					wrong[i] = zone
					refuse(t, of(-1, -1, wrong...), s.c)
				}
				sorted := append(slices.Clone(free), zone) // so that nothing but the zone is wrong
				slices.Sort(sorted)
				refuse(t, of(-1, -1, sorted...), s.c)
			}
		}
	}
}

// TestLaneStrangers has a lane that is neither -1 nor a data zone.
func TestLaneStrangers(t *testing.T) {
	for _, s := range shapes {
		for _, p := range s.pools() {
			for _, zone := range s.strangers() {
				if zone == -1 {
					continue
				}
				refuse(t, of(zone, p.Cleaner, p.Free...), s.c)
				refuse(t, of(p.Host, zone, p.Free...), s.c)
			}
		}
	}
}

// TestEqualLanes has one zone as both lanes. Both may be -1.
func TestEqualLanes(t *testing.T) {
	for _, s := range shapes {
		for _, free := range s.samples() {
			holdValid(t, of(-1, -1, free...), s.c, true)
			for _, zone := range except(s.all(), free...) {
				refuse(t, of(zone, zone, free...), s.c)
			}
		}
		for _, zone := range s.strangers() {
			if zone != -1 {
				refuse(t, of(zone, zone, s.all()...), s.c)
			}
		}
	}
}

// TestFreeLane has a lane that is free: the first, a middle and the last free zone.
func TestFreeLane(t *testing.T) {
	for _, s := range shapes {
		for _, p := range s.pools() {
			for _, i := range ends(len(p.Free)) {
				refuse(t, of(p.Free[i], p.Cleaner, p.Free...), s.c)
				refuse(t, of(p.Host, p.Free[i], p.Free...), s.c)
				refuse(t, of(p.Free[i], p.Free[i], p.Free...), s.c)
			}
		}
	}
}
