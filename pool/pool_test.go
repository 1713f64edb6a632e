package pool_test

import (
	"slices"
	"testing"

	"zoneappend/api"
	"zoneappend/pool"
)

// TestExample has the chapter's example, with each of three and of two data zones.
func TestExample(t *testing.T) {
	for _, s := range shapes {
		for _, x := range s.all() {
			for _, y := range zones(x+1, s.last) {
				holdNot(t, of(-1, -1, x, y), s.c, host)
				for _, z := range zones(y+1, s.last) {
					holdCall(t, of(-1, -1, x, y, z), s.c, host, of(x, -1, y, z), true)
				}
			}
		}
	}
}

// TestReadme has what README.md does with a pool of three free zones.
func TestReadme(t *testing.T) {
	c := api.Config{Zones: 8, Size: 3, Blocks: 1, Queues: 1, Depth: 1, Shards: 1}
	p := api.Pool{Free: []int{3, 5, 7}, Host: -1, Cleaner: -1}
	for i, x := range []struct {
		call
		want api.Pool
		ok   bool
	}{
		{host, of(3, -1, 5, 7), true},
		{leaveHost, of(-1, -1, 5, 7), true},
		{host, of(-1, -1, 5, 7), false},
		{cleaner, of(-1, 5, 7), true},
		{put(3), of(-1, 5, 3, 7), true},
		{put(5), of(-1, 5, 3, 7), false},
	} {
		got, ok := x.do(p, c)
		if !same(got, x.want) || ok != x.ok {
			t.Errorf("step %d: %v, %t", i, got, ok)
		}
		p = got
	}
}

// TestPut puts data zones into lists that have none, only lesser zones, only greater ones, and both.
func TestPut(t *testing.T) {
	for _, s := range shapes {
		middle := (s.first + s.last) / 2
		for _, x := range []struct {
			before []int
			zone   int
			behind []int
		}{
			{nil, s.first, nil}, {nil, middle, nil}, {nil, s.last, nil},
			{nil, s.first, []int{s.first + 1}}, {nil, s.first, []int{s.last}}, {nil, s.first, zones(s.first+1, s.last)},
			{nil, middle, []int{middle + 1}}, {nil, middle, zones(middle+1, s.last)}, {nil, s.last - 1, []int{s.last}},
			{[]int{s.first}, s.last, nil}, {[]int{s.last - 1}, s.last, nil}, {zones(s.first, s.last-1), s.last, nil},
			{[]int{middle - 1}, middle, nil}, {zones(s.first, middle-1), middle, nil}, {[]int{s.first}, s.first + 1, nil},
			{[]int{s.first}, middle, []int{s.last}}, {[]int{middle - 1}, middle, []int{middle + 1}},
			{zones(s.first, middle-1), middle, zones(middle+1, s.last)},
			{[]int{s.first}, s.first + 1, zones(s.first+2, s.last)}, {zones(s.first, s.last-2), s.last - 1, []int{s.last}},
		} {
			free := slices.Concat(x.before, x.behind)
			want := slices.Concat(x.before, []int{x.zone}, x.behind)
			for _, pair := range s.pairs(want) {
				holdCall(t, of(pair[0], pair[1], free...), s.c, put(x.zone), of(pair[0], pair[1], want...), true)
			}
		}
	}
}

// TestPutWhatIsThere puts zones that are free or lanes.
func TestPutWhatIsThere(t *testing.T) {
	for _, s := range shapes {
		for _, p := range s.pools() {
			for _, zone := range p.Free {
				holdNot(t, p, s.c, put(zone))
			}
			holdNot(t, p, s.c, put(p.Host), put(p.Cleaner)) // -1 is no data zone
		}
		for _, zone := range s.all() {
			rest := except(s.all(), zone)
			holdNot(t, of(zone, -1), s.c, put(zone))
			holdNot(t, of(-1, zone), s.c, put(zone))
			holdNot(t, of(zone, -1, rest...), s.c, put(zone))
			holdNot(t, of(-1, zone, rest...), s.c, put(zone))
			holdNot(t, of(-1, -1, s.all()...), s.c, put(zone))
			for _, other := range rest {
				holdNot(t, of(zone, other), s.c, put(zone), put(other))
			}
		}
	}
}

// TestPutStrangers puts zones that are no data zones.
func TestPutStrangers(t *testing.T) {
	for _, s := range shapes {
		for _, p := range s.pools() {
			for _, zone := range s.strangers() {
				holdNot(t, p, s.c, put(zone))
			}
		}
	}
}

// TestPutAll puts all data zones into an empty pool, upwards, downwards and from the middle on, and each of them once more.
func TestPutAll(t *testing.T) {
	for _, s := range shapes {
		up, down := s.all(), s.all()
		slices.Reverse(down)
		half := len(up) / 2
		for _, order := range [][]int{up, down, slices.Concat(up[half:], down[len(up)-half:])} {
			p := of(-1, -1)
			for i, zone := range order {
				want := slices.Sorted(slices.Values(order[:i+1]))
				holdCall(t, p, s.c, put(zone), of(-1, -1, want...), true)
				p, _ = pool.Put(p, s.c, zone)
				holdNot(t, p, s.c, put(zone))
			}
			if !slices.Equal(p.Free, up) {
				t.Errorf("%+v: %v", s, p)
			}
		}
	}
}

// runs are lists of a number of free zones: the least ones, the greatest ones, and, if there are others, such as are without
// the first zone.
func (s shape) runs(free int) [][]int {
	l := [][]int{zones(s.first, s.first+free-1), s.most(free)}
	if free < len(s.all()) {
		l = append(l, zones(s.first+1, s.first+free))
	}
	return l
}

// TestHost takes a lane for the host with each number of free zones.
func TestHost(t *testing.T) {
	for _, s := range shapes {
		for n := range len(s.all()) + 1 {
			for _, free := range s.runs(n) {
				for _, pair := range s.pairs(free) {
					p := of(pair[0], pair[1], free...)
					if pair[0] == -1 && n > api.Reserve {
						holdCall(t, p, s.c, host, of(free[0], pair[1], free[1:]...), true)
					} else {
						holdNot(t, p, s.c, host)
					}
				}
			}
		}
	}
}

// TestCleaner takes a lane for the cleaner with each number of free zones.
func TestCleaner(t *testing.T) {
	for _, s := range shapes {
		for n := range len(s.all()) + 1 {
			for _, free := range s.runs(n) {
				for _, pair := range s.pairs(free) {
					p := of(pair[0], pair[1], free...)
					if pair[1] == -1 && n > 0 {
						holdCall(t, p, s.c, cleaner, of(pair[0], free[0], free[1:]...), true)
					} else {
						holdNot(t, p, s.c, cleaner)
					}
				}
			}
		}
	}
}

// TestReserve has the numbers of free zones at which the host and the cleaner begin to get one, written out.
func TestReserve(t *testing.T) {
	c := small.c // with the data zones 2 to 7
	holdNot(t, of(-1, -1), c, host, cleaner)
	holdNot(t, of(-1, -1, 4), c, host)
	holdNot(t, of(-1, -1, 4, 6), c, host)
	holdNot(t, of(-1, 2, 4, 6), c, host)
	holdCall(t, of(-1, -1, 4, 6, 7), c, host, of(4, -1, 6, 7), true)
	holdCall(t, of(-1, 2, 4, 6, 7), c, host, of(4, 2, 6, 7), true)
	holdCall(t, of(-1, -1, 2, 3, 4, 5, 6, 7), c, host, of(2, -1, 3, 4, 5, 6, 7), true)
	holdNot(t, of(2, -1, 3, 4, 5, 6, 7), c, host)
	holdNot(t, of(7, -1, 2, 3, 4, 5, 6), c, host)
	holdCall(t, of(-1, -1, 7), c, cleaner, of(-1, 7), true)
	holdCall(t, of(3, -1, 7), c, cleaner, of(3, 7), true)
	holdCall(t, of(-1, -1, 4, 6), c, cleaner, of(-1, 4, 6), true)
	holdCall(t, of(5, -1, 4, 6, 7), c, cleaner, of(5, 4, 6, 7), true)
	holdCall(t, of(-1, -1, 2, 3, 4, 5, 6, 7), c, cleaner, of(-1, 2, 3, 4, 5, 6, 7), true)
	holdNot(t, of(-1, 2, 3, 4, 5, 6, 7), c, cleaner)
	holdNot(t, of(-1, 7, 2, 3, 4, 5, 6), c, cleaner)
}

// TestLeave leaves each lane, where it is a zone and where it is -1.
func TestLeave(t *testing.T) {
	for _, s := range shapes {
		for _, p := range s.pools() {
			if p.Host == -1 {
				holdNot(t, p, s.c, leaveHost)
			} else {
				holdCall(t, p, s.c, leaveHost, of(-1, p.Cleaner, p.Free...), true)
			}
			if p.Cleaner == -1 {
				holdNot(t, p, s.c, leaveCleaner)
			} else {
				holdCall(t, p, s.c, leaveCleaner, of(p.Host, -1, p.Free...), true)
			}
		}
	}
}
