package live_test

import (
	"math"
	"slices"
	"testing"

	"zoneappend/api"
	"zoneappend/live"
)

// TestExample has the chapter's example.
func TestExample(t *testing.T) {
	c := api.Counts{Live: []int{0, 0, 4, 1, 0, 2}, Pending: []int{0, 0, 0, 1, 0, 0}}
	want := api.Counts{Live: []int{0, 0, 3, 1, 0, 3}, Pending: c.Pending}
	holdChange(t, c, change{in(2), in(5), true, true}, want, true)
}

// TestReadme has what README.md does with counters of six zones.
func TestReadme(t *testing.T) {
	two := api.Entry{Block: 7, Kind: api.KindData, Version: 1, Place: api.Place{Zone: 2, Offset: 0}}
	five := api.Entry{Block: 7, Kind: api.KindData, Version: 2, Place: api.Place{Zone: 5, Offset: 0}}
	c := made(t, 6)
	var ok [6]bool
	c, ok[0] = live.Begin(c, 2)
	c, ok[1] = live.Change(c, none, two, false, true)
	c, ok[2] = live.End(c, 2)
	c, ok[3] = live.Change(c, two, five, true, true)
	c, ok[4] = live.Clear(c, 2)
	c, ok[5] = live.Clear(c, 5)
	want := api.Counts{Live: []int{0, 0, 0, 0, 0, 1}, Pending: make([]int, 6)}
	if !same(c, want) || ok != [6]bool{true, true, true, true, true, false} {
		t.Errorf("%v, %v", c, ok)
	}
	holdOf(t, 6, []api.Entry{five}, want, true)
	holdOf(t, 5, []api.Entry{five}, api.Counts{}, false)
}

func TestBegin(t *testing.T) {
	for _, n := range sizes() {
		for _, zone := range ends(n) {
			for _, before := range []int{0, 1, 2, 255, 1 << 32, most - 2, most - 1} {
				c := withPending(wide(n), zone, before)
				holdBegin(t, c, zone, withPending(c, zone, before+1), true)
			}
			c := withPending(wide(n), zone, most)
			holdBegin(t, c, zone, c, false)
			for _, other := range ends(n) {
				if other != zone { // which is not full
					holdBegin(t, c, other, withPending(c, other, c.Pending[other]+1), true)
				}
			}
		}
	}
}

func TestEnd(t *testing.T) {
	for _, n := range sizes() {
		for _, zone := range ends(n) {
			for _, before := range []int{1, 2, 3, 256, 1 << 32, most - 1, most} {
				c := withPending(wide(n), zone, before)
				holdEnd(t, c, zone, withPending(c, zone, before-1), true)
			}
			c := withPending(wide(n), zone, 0)
			holdEnd(t, c, zone, c, false)
			for _, other := range ends(n) {
				if other != zone { // of which there are some
					holdEnd(t, c, other, withPending(c, other, c.Pending[other]-1), true)
				}
			}
		}
	}
}

// TestPendingOfAnyLive begins and ends appends to zones whose Live is at its limits, which makes no difference.
func TestPendingOfAnyLive(t *testing.T) {
	for _, n := range sizes() {
		for _, zone := range ends(n) {
			for _, records := range []int{0, 1, most - 1, most} {
				c := withLive(wide(n), zone, records)
				holdBegin(t, c, zone, withPending(c, zone, c.Pending[zone]+1), true)
				holdEnd(t, c, zone, withPending(c, zone, c.Pending[zone]-1), true)
			}
		}
	}
}

// TestToTheLimits begins and ends appends one by one, up to the limits.
func TestToTheLimits(t *testing.T) {
	c := api.Counts{Live: []int{0, 1}, Pending: []int{0, most - 3}}
	for n := most - 3; n < most; n++ {
		holdBegin(t, c, 1, withPending(c, 1, n+1), true)
		c, _ = live.Begin(c, 1)
	}
	holdBegin(t, c, 1, c, false)
	c = withPending(c, 1, 3)
	for n := 3; n > 0; n-- {
		holdEnd(t, c, 1, withPending(c, 1, n-1), true)
		c, _ = live.End(c, 1)
	}
	holdEnd(t, c, 1, c, false)
}

func TestClear(t *testing.T) {
	numbers := []int{0, 1, 2, 256, 1 << 32, most - 1, most}
	for _, n := range sizes() {
		for _, zone := range ends(n) {
			for _, records := range numbers {
				for _, appends := range numbers {
					want := records == 0 && appends == 0
					holdClear(t, withPending(withLive(wide(n), zone, records), zone, appends), zone, want)
					c := api.Counts{Live: make([]int, n), Pending: make([]int, n)}
					c = withPending(withLive(c, zone, records), zone, appends)
					for other := range n {
						holdClear(t, c, other, other != zone || want)
					}
				}
			}
		}
	}
}

// TestChangeOfTwoZones has entries in two zones.
func TestChangeOfTwoZones(t *testing.T) {
	for _, n := range sizes() {
		for _, from := range ends(n) {
			for _, to := range ends(n) {
				if from == to {
					continue
				}
				for _, numbers := range [][2]int{{1, 0}, {2, 1}, {1, most - 1}, {most, 0}, {most, most - 1}, {7, 300}} {
					c := withLive(withLive(wide(n), from, numbers[0]), to, numbers[1])
					less, more := withLive(c, from, numbers[0]-1), withLive(c, to, numbers[1]+1)
					holdChange(t, c, change{in(from), in(to), false, false}, c, true)
					holdChange(t, c, change{in(from), in(to), true, false}, less, true)
					holdChange(t, c, change{in(from), in(to), false, true}, more, true)
					holdChange(t, c, change{in(from), in(to), true, true}, withLive(less, to, numbers[1]+1), true)
				}
			}
		}
	}
}

// TestChangeBehindTheLimits has a zone that has no record to lose, and one that can have no other one.
func TestChangeBehindTheLimits(t *testing.T) {
	for _, n := range sizes()[1:] {
		for _, from := range ends(n) {
			for to := range n {
				if from == to {
					continue
				}
				bare := withLive(wide(n), from, 0)
				holdChange(t, bare, change{in(from), in(to), true, false}, bare, false)
				holdChange(t, bare, change{in(from), in(to), true, true}, bare, false)
				holdChange(t, bare, change{in(from), in(to), false, true}, withLive(bare, to, bare.Live[to]+1), true)
				full := withLive(wide(n), to, most)
				holdChange(t, full, change{in(from), in(to), false, true}, full, false)
				holdChange(t, full, change{in(from), in(to), true, true}, full, false)
				holdChange(t, full, change{in(from), in(to), true, false}, withLive(full, from, full.Live[from]-1), true)
				both := withLive(bare, to, most)
				for _, used := range ways()[1:] {
					holdChange(t, both, change{in(from), in(to), used[0], used[1]}, both, false)
				}
				for _, c := range []api.Counts{bare, full, both} {
					holdChange(t, c, change{in(from), in(to), false, false}, c, true)
				}
			}
		}
	}
}

// TestChangeOfOneZone has entries in the same zone: the same one, and different ones.
func TestChangeOfOneZone(t *testing.T) {
	for _, n := range sizes() {
		for _, zone := range ends(n) {
			for _, before := range []int{0, 1, 2, 256, 1 << 32, most - 1, most} {
				c := withLive(wide(n), zone, before)
				holdChange(t, c, change{in(zone), in(zone), false, false}, c, true)
				holdChange(t, c, change{in(zone), in(zone), true, true}, c, true)
				if before > 0 {
					holdChange(t, c, change{in(zone), in(zone), true, false}, withLive(c, zone, before-1), true)
				} else {
					holdChange(t, c, change{in(zone), in(zone), true, false}, c, false)
				}
				if before < most {
					holdChange(t, c, change{in(zone), in(zone), false, true}, withLive(c, zone, before+1), true)
				} else {
					holdChange(t, c, change{in(zone), in(zone), false, true}, c, false)
				}
			}
		}
	}
}

// TestChangeOfStrangers has entries in zones that are no indices, which matters only where they are used.
func TestChangeOfStrangers(t *testing.T) {
	for _, n := range sizes() {
		c := wide(n)
		for _, zone := range ends(n) {
			less, more := withLive(c, zone, c.Live[zone]-1), withLive(c, zone, c.Live[zone]+1)
			for _, stranger := range strangers(n) {
				holdChange(t, c, change{in(zone), in(stranger), true, false}, less, true)
				holdChange(t, c, change{in(zone), in(stranger), false, true}, c, false)
				holdChange(t, c, change{in(zone), in(stranger), true, true}, c, false)
				holdChange(t, c, change{in(zone), in(stranger), false, false}, c, true)
				holdChange(t, c, change{in(stranger), in(zone), true, false}, c, false)
				holdChange(t, c, change{in(stranger), in(zone), false, true}, more, true)
				holdChange(t, c, change{in(stranger), in(zone), true, true}, c, false)
				holdChange(t, c, change{in(stranger), in(zone), false, false}, c, true)
				for _, used := range ways() {
					holdChange(t, c, change{in(stranger), in(stranger), used[0], used[1]}, c, used == [2]bool{})
				}
			}
		}
		for _, used := range ways() {
			holdChange(t, c, change{in(-1), in(n), used[0], used[1]}, c, used == [2]bool{})
			holdChange(t, c, change{in(math.MinInt), in(math.MaxInt), used[0], used[1]}, c, used == [2]bool{})
		}
	}
}

// TestChangeOfAnyPending changes entries in zones with a Pending at its limits, which makes no difference.
func TestChangeOfAnyPending(t *testing.T) {
	for _, n := range sizes() {
		for _, zone := range ends(n) {
			for _, appends := range []int{0, 1, most - 1, most} {
				c := withPending(wide(n), zone, appends)
				holdChange(t, c, change{in(zone), in(-1), true, false}, withLive(c, zone, c.Live[zone]-1), true)
				holdChange(t, c, change{in(-1), in(zone), false, true}, withLive(c, zone, c.Live[zone]+1), true)
				holdChange(t, c, change{in(zone), in(zone), true, true}, c, true)
			}
		}
	}
}

// inEach is entries in zones of n, more in each one than in the one before, in no order, and how many each zone has.
func inEach(n int) ([]api.Entry, api.Counts) {
	var l []api.Entry
	c := api.Counts{Live: make([]int, n), Pending: make([]int, n)}
	for round := range n {
		for zone := n - 1; zone >= round; zone-- {
			e := in(zone)
			e.Block, e.Version = len(l), 1+len(l)%5
			l = append(l, e)
			c.Live[zone]++
		}
	}
	return l, c
}

func TestOf(t *testing.T) {
	for n := 1; n <= api.MaxZones; n++ {
		zeros := api.Counts{Live: make([]int, n), Pending: make([]int, n)}
		holdOf(t, n, nil, zeros, true)
		if c, ok := live.Of(n, nil); !same(c, zeros) || !ok {
			t.Errorf("Of(%d, nil): %v, %t", n, c, ok)
		}
		for zone := range n {
			holdOf(t, n, []api.Entry{in(zone)}, withLive(zeros, zone, 1), true)
			holdOf(t, n, []api.Entry{in(zone), in(zone)}, withLive(zeros, zone, 2), true) // also the same one twice
			holdOf(t, n, slices.Repeat([]api.Entry{in(zone)}, 300), withLive(zeros, zone, 300), true)
			holdOf(t, n, others(in(zone)), withLive(zeros, zone, 6), true) // whatever they have beside their zones
		}
		l, want := inEach(n)
		holdOf(t, n, l, want, true)
		slices.Reverse(l)
		holdOf(t, n, l, want, true)
	}
	holdOf(t, 3, make([]api.Entry, 5000), api.Counts{Live: []int{5000, 0, 0}, Pending: []int{0, 0, 0}}, true)
}

// TestOfNoZones has numbers of zones that counters cannot have.
func TestOfNoZones(t *testing.T) {
	for _, zones := range slices.Concat([]int{-1, 0, 33, 34, 64, 256, 257, 1<<32 + 1, most}, above, below) {
		holdOf(t, zones, nil, api.Counts{}, false)
		holdOf(t, zones, []api.Entry{in(0)}, api.Counts{}, false)
		holdOf(t, zones, []api.Entry{in(-1)}, api.Counts{}, false)
		holdOf(t, zones, []api.Entry{in(zones), in(zones - 1)}, api.Counts{}, false)
	}
}

// TestOfStrangers has an entry with a zone that is no index, at the first, a middle and the last place.
func TestOfStrangers(t *testing.T) {
	for n := 1; n <= api.MaxZones; n++ {
		l, want := inEach(n)
		for _, at := range []int{0, len(l) / 2, len(l)} {
			last := slices.Insert(slices.Clone(l), at, in(n-1))
			holdOf(t, n, last, withLive(want, n-1, want.Live[n-1]+1), true)
			for _, stranger := range strangers(n) {
				holdOf(t, n, slices.Insert(slices.Clone(l), at, in(stranger)), api.Counts{}, false)
			}
		}
		for _, stranger := range strangers(n) {
			holdOf(t, n, []api.Entry{in(stranger)}, api.Counts{}, false)
			for _, e := range others(in(stranger)) {
				holdOf(t, n, []api.Entry{in(0), e, in(stranger)}, api.Counts{}, false)
			}
		}
	}
}
