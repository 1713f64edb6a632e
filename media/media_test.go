package media_test

import (
	"math"
	"slices"
	"testing"

	"zoneappend/api"
	"zoneappend/media"
)

// among is a zone among others, at each place where it can be, and how many zones are before it.
func among(z api.Zone, call func(d api.Device, at int)) {
	a, b, c := zone(full, 3, "pqr"), zone(empty, 0, ""), zone(offline, 0, "")
	call(device(3, z), 0)
	call(device(3, z, a, b, c), 0)
	call(device(3, a, b, z, c), 2)
	call(device(3, b, c, a, z), 3)
}

// replaced is a device with another zone at an index.
func replaced(d api.Device, at int, z api.Zone) api.Device {
	d.Zones = slices.Clone(d.Zones)
	d.Zones[at] = z
	return d
}

func TestSyncInEachState(t *testing.T) {
	for _, c := range []struct{ before, behind api.Zone }{
		{zone(empty, 0, ""), zone(empty, 0, "")},
		{zone(opened, 0, ""), zone(opened, 0, "")},
		{zone(opened, 0, "a"), zone(opened, 1, "a")},
		{zone(opened, 1, "a"), zone(opened, 1, "a")},
		{zone(opened, 0, "ab"), zone(opened, 2, "ab")},
		{zone(opened, 1, "ab"), zone(opened, 2, "ab")},
		{zone(opened, 2, "ab"), zone(opened, 2, "ab")},
		{zone(held, 0, ""), zone(held, 0, "")},
		{zone(held, 0, "ab"), zone(held, 2, "ab")},
		{zone(held, 1, "ab"), zone(held, 2, "ab")},
		{zone(held, 2, "ab"), zone(held, 2, "ab")},
		{zone(shut, 0, ""), zone(shut, 0, "")},
		{zone(shut, 0, "ab"), zone(shut, 2, "ab")},
		{zone(shut, 1, "ab"), zone(shut, 2, "ab")},
		{zone(shut, 2, "ab"), zone(shut, 2, "ab")},
		{zone(full, 0, ""), zone(full, 0, "")},
		{zone(full, 1, "a"), zone(full, 1, "a")},
		{zone(full, 3, "abc"), zone(full, 3, "abc")},
		{zone(offline, 0, ""), zone(offline, 0, "")},
	} {
		among(c.before, func(d api.Device, at int) {
			holdSync(t, d, replaced(d, at, c.behind), api.OK)
		})
	}
}

// TestSyncOfAllZones has zones of all states that are not durable in one device.
func TestSyncOfAllZones(t *testing.T) {
	before := device(4, zone(opened, 1, "abc"), zone(full, 2, "de"), zone(held, 0, "f"), zone(empty, 0, ""), zone(shut, 1, "gh"), zone(offline, 0, ""), zone(opened, 0, "ij"))
	behind := device(4, zone(opened, 3, "abc"), zone(full, 2, "de"), zone(held, 1, "f"), zone(empty, 0, ""), zone(shut, 2, "gh"), zone(offline, 0, ""), zone(opened, 2, "ij"))
	before.MaxOpen, behind.MaxOpen = 3, 3
	before.MaxActive, behind.MaxActive = 5, 5
	holdVolatile(t, before, 2, 0, 1, 0, 1, 0, 2)
	holdSync(t, before, behind, api.OK)
	holdSync(t, behind, behind, api.OK)
	holdVolatile(t, behind, 0, 0, 0, 0, 0, 0, 0)
}

func TestVolatileOfOneZone(t *testing.T) {
	for _, c := range []struct {
		zone api.Zone
		want int
	}{
		{zone(empty, 0, ""), 0},
		{zone(opened, 0, ""), 0},
		{zone(opened, 0, "a"), 1},
		{zone(opened, 1, "a"), 0},
		{zone(opened, 0, "ab"), 2},
		{zone(opened, 1, "ab"), 1},
		{zone(held, 0, "ab"), 2},
		{zone(held, 1, "ab"), 1},
		{zone(held, 2, "ab"), 0},
		{zone(shut, 0, "ab"), 2},
		{zone(shut, 1, "ab"), 1},
		{zone(shut, 2, "ab"), 0},
		{zone(full, 0, ""), 0},
		{zone(full, 3, "abc"), 0},
		{zone(offline, 0, ""), 0},

		// Zones that no valid device has.
		{zone(full, 0, "abc"), 3},
		{zone(full, 1, "abc"), 2},
		{zone(full, 2, "abc"), 1},
		{zone(full, 0, "ab"), 2},
		{zone(full, 4, "ab"), 0},
		{zone(offline, 0, "ab"), 2},
		{zone(offline, 1, "ab"), 1},
		{zone(empty, 0, "ab"), 2},
		{zone(empty, 2, "ab"), 0},
		{zone(opened, 3, "ab"), 0},
		{zone(opened, 4, "ab"), 0},
		{zone(opened, -1, "ab"), 2},
		{zone(opened, -2, "ab"), 2},
		{zone(opened, -3, "ab"), 2},
		{zone(opened, -1, ""), 0},
		{zone(opened, 1, ""), 0},
		{zone(opened, 0, "abcdefgh"), 8},
		{zone(opened, 7, "abcdefgh"), 1},
		{zone(-1, 1, "abc"), 2},
		{zone(6, 1, "abc"), 2},
		{zone(math.MinInt, 1, "abc"), 2},
		{zone(math.MaxInt, 1, "abc"), 2},
		{zone(math.MaxInt, math.MaxInt, "abc"), 0},
		{zone(math.MinInt, math.MinInt, "abc"), 3},
	} {
		among(c.zone, func(d api.Device, at int) {
			want := make([]int, len(d.Zones))
			want[at] = c.want
			holdVolatile(t, d, want...)
		})
	}
}

func TestVolatileOfGreatDurables(t *testing.T) {
	for _, state := range []int{empty, opened, held, shut, full, offline, -1, 6} {
		for _, durable := range great {
			want := 0
			if durable < 0 {
				want = 3
			}
			holdVolatile(t, device(3, zone(state, durable, "abc"), zone(state, durable, "")), want, 0)
		}
	}
}

// TestVolatileOfAnyDevice has devices whose numbers, zones and sectors are wrong.
func TestVolatileOfAnyDevice(t *testing.T) {
	holdVolatile(t, api.Device{})
	holdVolatile(t, api.Device{Zones: []api.Zone{}})
	holdVolatile(t, api.Device{Size: 3, MaxOpen: 1, MaxActive: 1})
	for _, n := range great {
		holdVolatile(t, api.Device{Size: n, MaxOpen: n, MaxActive: n, Zones: []api.Zone{zone(opened, 1, "abc"), zone(n, 0, "ab")}}, 2, 2)
	}
	odd := []string{"", "x", "a sector that has more than forty bytes, which is too much"}
	holdVolatile(t, device(3, api.Zone{Durable: 1, Sectors: odd}, api.Zone{Durable: -1, Sectors: odd}, api.Zone{Sectors: []string{""}}), 2, 3, 1)
	many := api.Device{Zones: make([]api.Zone, 1000)}
	want := make([]int, 1000)
	for i := range many.Zones {
		many.Zones[i] = api.Zone{Durable: i, Sectors: make([]string, 500)}
		want[i] = max(500-i, 0)
	}
	holdVolatile(t, many, want...)
}

// TestTheListOfVolatile writes into a result, as nobody should, and expects another one to be right.
func TestTheListOfVolatile(t *testing.T) {
	d := device(3, zone(opened, 0, "ab"), zone(held, 1, "ab"))
	media.Volatile(d)[0] = 9
	holdVolatile(t, d, 2, 1)
}

// TestCrashInEachState has each zone with numbers of sectors that may stay.
func TestCrashInEachState(t *testing.T) {
	for _, c := range []struct {
		before api.Zone
		keep   []int
		behind api.Zone
	}{
		{zone(empty, 0, ""), []int{-1, 0, 1, 2, 3, 4}, zone(empty, 0, "")},
		{zone(offline, 0, ""), []int{-1, 0, 1, 2, 3, 4}, zone(offline, 0, "")},
		{zone(full, 0, ""), []int{-1, 0, 1, 2, 3, 4}, zone(full, 0, "")},
		{zone(full, 1, "a"), []int{-1, 0, 1, 2, 3, 4}, zone(full, 1, "a")},
		{zone(full, 2, "ab"), []int{-2, -1, 0, 1, 2, 3, 4}, zone(full, 2, "ab")},
		{zone(full, 3, "abc"), []int{-3, -2, -1, 0, 1, 2, 3, 4}, zone(full, 3, "abc")},

		{zone(opened, 0, ""), []int{-1, 0, 1, 2, 3}, zone(empty, 0, "")},
		{zone(opened, 0, "a"), []int{-2, -1, 0}, zone(empty, 0, "")},
		{zone(opened, 0, "a"), []int{1, 2, 3}, zone(shut, 1, "a")},
		{zone(opened, 1, "a"), []int{-1, 0, 1, 2}, zone(shut, 1, "a")},
		{zone(opened, 0, "ab"), []int{-2, -1, 0}, zone(empty, 0, "")},
		{zone(opened, 0, "ab"), []int{1}, zone(shut, 1, "a")},
		{zone(opened, 0, "ab"), []int{2, 3, 4}, zone(shut, 2, "ab")},
		{zone(opened, 1, "ab"), []int{-3, -2, -1, 0}, zone(shut, 1, "a")},
		{zone(opened, 1, "ab"), []int{1, 2, 3}, zone(shut, 2, "ab")},
		{zone(opened, 2, "ab"), []int{-2, -1, 0, 1, 2, 3}, zone(shut, 2, "ab")},

		{zone(held, 0, ""), []int{-1, 0, 1, 2, 3}, zone(empty, 0, "")},
		{zone(held, 0, "ab"), []int{-2, -1, 0}, zone(empty, 0, "")},
		{zone(held, 0, "ab"), []int{1}, zone(shut, 1, "a")},
		{zone(held, 0, "ab"), []int{2, 3, 4}, zone(shut, 2, "ab")},
		{zone(held, 1, "ab"), []int{-2, -1, 0}, zone(shut, 1, "a")},
		{zone(held, 1, "ab"), []int{1, 2, 3}, zone(shut, 2, "ab")},
		{zone(held, 2, "ab"), []int{-2, -1, 0, 1, 2, 3}, zone(shut, 2, "ab")},

		{zone(shut, 0, ""), []int{-1, 0, 1, 2, 3}, zone(empty, 0, "")},
		{zone(shut, 0, "ab"), []int{-2, -1, 0}, zone(empty, 0, "")},
		{zone(shut, 0, "ab"), []int{1}, zone(shut, 1, "a")},
		{zone(shut, 0, "ab"), []int{2, 3, 4}, zone(shut, 2, "ab")},
		{zone(shut, 1, "ab"), []int{-2, -1, 0}, zone(shut, 1, "a")},
		{zone(shut, 1, "ab"), []int{1, 2, 3}, zone(shut, 2, "ab")},
		{zone(shut, 2, "ab"), []int{-2, -1, 0, 1, 2, 3}, zone(shut, 2, "ab")},
	} {
		for _, k := range c.keep {
			among(c.before, func(d api.Device, at int) {
				keep := []int{7, 7, 7, 7, 7}
				keep[at] = k
				holdCrash(t, d, keep, replaced(d, at, c.behind), api.OK)
				holdCrash(t, d, keep[:at+1], replaced(d, at, c.behind), api.OK)
			})
		}
	}
}

// TestTheExampleOfCrash is the example of the chapter, with all numbers that come before and behind it.
func TestTheExampleOfCrash(t *testing.T) {
	d := device(8, zone(opened, 2, "abcde"))
	for _, c := range []struct {
		k    int
		want api.Zone
	}{
		{-2, zone(shut, 2, "ab")},
		{-1, zone(shut, 2, "ab")},
		{0, zone(shut, 2, "ab")},
		{1, zone(shut, 3, "abc")},
		{2, zone(shut, 4, "abcd")},
		{3, zone(shut, 5, "abcde")},
		{4, zone(shut, 5, "abcde")},
		{5, zone(shut, 5, "abcde")},
		{6, zone(shut, 5, "abcde")},
	} {
		holdCrash(t, d, []int{c.k}, device(8, c.want), api.OK)
	}
	holdCrash(t, d, nil, device(8, zone(shut, 2, "ab")), api.OK)
}

// TestListsOfCrash has one device with lists that are shorter and longer than that of its zones, and with great numbers.
func TestListsOfCrash(t *testing.T) {
	d := device(5, zone(opened, 1, "abc"), zone(held, 0, "de"), zone(full, 2, "fg"), zone(shut, 1, "hi"), zone(offline, 0, ""), zone(opened, 0, "jkl"))
	d.MaxOpen, d.MaxActive = 3, 5
	least := [4]int{1, 0, 1, 0}
	most := [4]int{3, 2, 2, 3}
	for _, c := range []struct {
		keep []int
		want [4]int // how many sectors stay in the zones 0, 1, 3 and 5
	}{
		{nil, least},
		{[]int{}, least},
		{[]int{0}, least},
		{[]int{0, 0, 0, 0, 0, 0}, least},
		{[]int{0, 0, 0, 0, 0, 0, 0, 0}, least},
		{[]int{0, 0, 0, 0, 0, 0, 3, 3}, least},
		{[]int{-1, -1, -1, -1, -1, -1}, least},
		{[]int{1}, [4]int{2, 0, 1, 0}},
		{[]int{2}, [4]int{3, 0, 1, 0}},
		{[]int{3}, [4]int{3, 0, 1, 0}},
		{[]int{0, 1}, [4]int{1, 1, 1, 0}},
		{[]int{2, 1}, [4]int{3, 1, 1, 0}},
		{[]int{1, 2, 3}, [4]int{2, 2, 1, 0}},
		{[]int{0, 0, 2}, least},
		{[]int{0, 0, 0, 1}, [4]int{1, 0, 2, 0}},
		{[]int{-1, 1, -1, 1}, [4]int{1, 1, 2, 0}},
		{[]int{0, 0, 0, 0, 3}, least},
		{[]int{0, 0, 0, 0, 0, 2}, [4]int{1, 0, 1, 2}},
		{[]int{2, 2, 0, 1, 0, 3}, most},
		{[]int{3, 3, 3, 3, 3, 3}, most},
		{[]int{3, 3, 3, 3, 3, 3, 3}, most},
		{[]int{5, 5, 5, 5, 5, 5, 5, 5, 5, 5, 5, 5}, most},
		{[]int{math.MaxInt, math.MaxInt, math.MaxInt, math.MaxInt, math.MaxInt, math.MaxInt}, most},
		{[]int{math.MaxInt - 1, math.MaxInt - 2, 0, 1 << 62, 0, 1 << 32}, most},
		{[]int{math.MinInt, math.MinInt, math.MinInt, math.MinInt, math.MinInt, math.MinInt}, least},
		{[]int{math.MinInt, math.MaxInt, math.MinInt, math.MaxInt, math.MinInt, math.MaxInt}, [4]int{1, 2, 2, 3}},
		{slices.Repeat([]int{1}, 1000), [4]int{2, 1, 2, 1}},
	} {
		want := replaced(d, 0, cut("abc", c.want[0]))
		want.Zones[1] = cut("de", c.want[1])
		want.Zones[3] = cut("hi", c.want[2])
		want.Zones[5] = cut("jkl", c.want[3])
		holdCrash(t, d, c.keep, want, api.OK)
	}
}

// cut is a zone that was not full, behind a power failure in which n of its sectors stayed.
func cut(letters string, n int) api.Zone {
	if n == 0 {
		return zone(empty, 0, "")
	}
	return zone(shut, n, letters[:n])
}

// TestLimitsStay has devices with all pairs of limits: no call changes them, nor does it ask whether they are used up.
func TestLimitsStay(t *testing.T) {
	for active := 1; active <= 4; active++ {
		for open := 1; open <= active; open++ {
			for size := 3; size <= 64; size++ {
				d := device(size, zone(full, 1, "a"), zone(empty, 0, ""), zone(held, 1, "bc"), zone(offline, 0, ""))
				d.MaxOpen, d.MaxActive = open, active
				holdSync(t, d, replaced(d, 2, zone(held, 2, "bc")), api.OK)
				holdCrash(t, d, nil, replaced(d, 2, zone(shut, 1, "b")), api.OK)
			}
		}
	}
}
