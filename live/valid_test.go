package live_test

import (
	"math"
	"slices"
	"testing"

	"zoneappend/api"
	"zoneappend/live"
)

// wrong are numbers that no counter may be.
func wrong() []int { return slices.Concat([]int{-1, most + 1}, above, below) }

// made is counters that New has made.
func made(t *testing.T, zones int) api.Counts {
	t.Helper()
	c, e := live.New(zones)
	if e != api.OK || len(c.Live) != zones || len(c.Pending) != zones {
		t.Fatalf("New(%d): %v, %d", zones, c, e)
	}
	return c
}

func TestNew(t *testing.T) {
	for n := 1; n <= api.MaxZones; n++ {
		c := made(t, n)
		if !same(c, api.Counts{Live: make([]int, n), Pending: make([]int, n)}) {
			t.Errorf("New(%d): %v", n, c)
		}
		holdValid(t, c, true)
		for zone := range n {
			holdClear(t, c, zone, true)
			holdEnd(t, c, zone, c, false)
			holdChange(t, c, change{in(zone), in(zone), true, false}, c, false)
			holdBegin(t, c, zone, withPending(c, zone, 1), true)
			holdChange(t, c, change{in(zone), in(zone), false, true}, withLive(c, zone, 1), true)
		}
	}
	for _, n := range slices.Concat([]int{-1, 0, 33, 34, 64, 256, 257, 1<<32 + 1, most, most + 1}, above, below) {
		if c, e := live.New(n); e != api.ErrRange || len(c.Live)+len(c.Pending) != 0 {
			t.Errorf("New(%d): %v, %d", n, c, e)
		}
	}
}

// TestResultsAreNew writes into what New and Of returned, as nobody should: other lists of counters do not change.
func TestResultsAreNew(t *testing.T) {
	for _, n := range sizes() {
		zero := api.Counts{Live: make([]int, n), Pending: make([]int, n)}
		of, _ := live.Of(n, nil)
		for _, c := range []api.Counts{made(t, n), of} {
			for i := range n {
				c.Live[i] = 5
			}
			if !same(c, api.Counts{Live: slices.Repeat([]int{5}, n), Pending: zero.Pending}) {
				t.Errorf("%d zones: %v", n, c)
			}
		}
		if again, _ := live.Of(n, nil); !same(made(t, n), zero) || !same(again, zero) {
			t.Errorf("%d zones: New and Of are not as they were", n)
		}
	}
}

func TestValid(t *testing.T) {
	for n := 1; n <= api.MaxZones; n++ {
		holdValid(t, wide(n), true)
		for _, all := range []int{0, 1, 255, 256, 1 << 32, most - 1, most} {
			holdValid(t, api.Counts{Live: slices.Repeat([]int{all}, n), Pending: make([]int, n)}, true)
			holdValid(t, api.Counts{Live: make([]int, n), Pending: slices.Repeat([]int{all}, n)}, true)
			holdValid(t, api.Counts{Live: slices.Repeat([]int{all}, n), Pending: slices.Repeat([]int{all}, n)}, true)
			for _, zone := range ends(n) {
				holdValid(t, withLive(wide(n), zone, all), true)
				holdValid(t, withPending(wide(n), zone, all), true)
			}
		}
	}
}

// TestTooFewOrTooMany has counters of no zones, and of more than there may be.
func TestTooFewOrTooMany(t *testing.T) {
	refuse(t, api.Counts{})
	refuse(t, api.Counts{Live: []int{}, Pending: []int{}})
	for _, n := range []int{33, 34, 64, 256, 257, 1000} {
		refuse(t, wide(n))
		refuse(t, api.Counts{Live: make([]int, n), Pending: make([]int, n)})
	}
}

// TestLengths has a Live and a Pending of different lengths, with numbers that counters may be.
func TestLengths(t *testing.T) {
	lengths := []int{0, 1, 2, 3, 16, 30, 31, 32, 33, 34, 64}
	for _, n := range lengths {
		for _, m := range lengths {
			if n != m {
				refuse(t, api.Counts{Live: make([]int, n), Pending: make([]int, m)})
				refuse(t, api.Counts{Live: wide(n).Live, Pending: wide(m).Pending})
			}
		}
	}
	for n := range api.MaxZones + 1 {
		refuse(t, api.Counts{Live: wide(n).Live, Pending: wide(n + 1).Pending})
		refuse(t, api.Counts{Live: wide(n + 1).Live, Pending: wide(n).Pending})
	}
	refuse(t, api.Counts{Live: []int{0}})
	refuse(t, api.Counts{Pending: []int{0}})
}

// TestWrongNumbers has one number that no counter may be, at the first, a middle and the last place.
func TestWrongNumbers(t *testing.T) {
	for _, n := range sizes() {
		for _, c := range []api.Counts{wide(n), {Live: make([]int, n), Pending: make([]int, n)}} {
			for _, zone := range ends(n) {
				for _, number := range wrong() {
					refuse(t, withLive(c, zone, number))
					refuse(t, withPending(c, zone, number))
				}
				refuse(t, withPending(withLive(c, zone, -1), zone, 1))
				refuse(t, withPending(withLive(c, zone, most+1), zone, -1))
			}
		}
	}
}

// TestWrongNumberWouldBeRight has numbers that the call itself would make right: what is not valid stays as it is.
func TestWrongNumberWouldBeRight(t *testing.T) {
	for _, n := range sizes() {
		for _, zone := range ends(n) {
			few := withPending(wide(n), zone, -1)
			holdBegin(t, few, zone, few, false)
			many := withPending(wide(n), zone, most+1)
			holdEnd(t, many, zone, many, false)
			few = withLive(wide(n), zone, -1)
			holdChange(t, few, change{in(zone), in(zone), false, true}, few, false)
			many = withLive(wide(n), zone, most+1)
			holdChange(t, many, change{in(zone), in(zone), true, false}, many, false)
		}
	}
}

// TestStrangers asks counters, the greatest ones and those that are 0 too, for zones that they do not have.
func TestStrangers(t *testing.T) {
	for n := 1; n <= api.MaxZones; n++ {
		zeros := make([]int, n)
		full := slices.Repeat([]int{most}, n)
		for _, c := range []api.Counts{wide(n), {Live: zeros, Pending: zeros}, {Live: full, Pending: full}} {
			for _, zone := range strangers(n) {
				refuseZone(t, c, zone)
			}
		}
	}
	refuseZone(t, api.Counts{}, math.MinInt)
}
