package zns_test

import (
	"math"
	"strings"
	"testing"

	"zoneappend/api"
	"zoneappend/zns"
)

// change is a zone before and behind a call, or the error of the call.
type change struct {
	before, behind api.Zone
	err            api.Errno
}

// expectChanges makes calls for a zone of a device in which other zones are active, and there is room.
func expectChanges(t *testing.T, kind string, changes []change) {
	t.Helper()
	a, b, c := zone(shut, 0, "pq"), zone(opened, 1, "rs"), zone(full, 2, "tu")
	for _, x := range changes {
		c0 := call{kind: kind, zone: 0, sector: sector('z')}
		c2 := call{kind: kind, zone: 2, sector: sector('z')}
		expect(t, "the first zone", c0, device(2, 3, x.before, a, b, c), device(2, 3, x.behind, a, b, c), x.err)
		expect(t, "a zone in the middle", c2, device(2, 3, a, b, x.before, c), device(2, 3, a, b, x.behind, c), x.err)
		expect(t, "the only zone", c0, device(1, 1, x.before), device(1, 1, x.behind), x.err)
	}
}

func TestAppendInEachState(t *testing.T) {
	expectChanges(t, appending, []change{
		{zone(empty, 0, ""), zone(opened, 0, "z"), api.OK},
		{zone(opened, 0, ""), zone(opened, 0, "z"), api.OK},
		{zone(opened, 0, "a"), zone(opened, 0, "az"), api.OK},
		{zone(opened, 1, "a"), zone(opened, 1, "az"), api.OK},
		{zone(opened, 0, "ab"), zone(full, 3, "abz"), api.OK},
		{zone(opened, 1, "ab"), zone(full, 3, "abz"), api.OK},
		{zone(opened, 2, "ab"), zone(full, 3, "abz"), api.OK},
		{zone(held, 0, ""), zone(held, 0, "z"), api.OK},
		{zone(held, 0, "a"), zone(held, 0, "az"), api.OK},
		{zone(held, 1, "a"), zone(held, 1, "az"), api.OK},
		{zone(held, 0, "ab"), zone(full, 3, "abz"), api.OK},
		{zone(held, 2, "ab"), zone(full, 3, "abz"), api.OK},
		{zone(shut, 0, ""), zone(opened, 0, "z"), api.OK},
		{zone(shut, 0, "a"), zone(opened, 0, "az"), api.OK},
		{zone(shut, 1, "a"), zone(opened, 1, "az"), api.OK},
		{zone(shut, 0, "ab"), zone(full, 3, "abz"), api.OK},
		{zone(shut, 1, "ab"), zone(full, 3, "abz"), api.OK},
		{zone(full, 0, ""), zone(full, 0, ""), api.ErrFull},
		{zone(full, 2, "ab"), zone(full, 2, "ab"), api.ErrFull},
		{zone(full, 3, "abc"), zone(full, 3, "abc"), api.ErrFull},
		{zone(offline, 0, ""), zone(offline, 0, ""), api.ErrState},
	})
}

func TestOffsetsOfAppend(t *testing.T) {
	for _, state := range []int{empty, opened, held, shut} {
		for n := range 3 {
			if state == empty && n > 0 {
				continue
			}
			d := device(1, 2, zone(shut, 0, "pq"), zone(state, 0, "abc"[:n]))
			next, at, e := zns.Append(d, 1, sector('z'))
			if at != n || e != api.OK {
				t.Errorf("Append to %s: %d, %d", text(d), at, e)
			}
			if s, e := zns.Read(next, 1, at); s != sector('z') || e != api.OK {
				t.Errorf("Read of %s: %q, %d", text(next), s, e)
			}
		}
	}
}

func TestSectorsOfAWrongLength(t *testing.T) {
	d := device(1, 1, zone(empty, 0, ""), zone(held, 1, "ab"), zone(full, 3, "cde"), zone(full, 0, ""), zone(offline, 0, ""))
	crowded := device(1, 2, zone(empty, 0, ""), zone(held, 1, "ab"), zone(shut, 1, "c"))
	for _, n := range []int{0, 1, 20, 39, 41, 80, 256, 256 + 40, 1 << 16} {
		c := call{kind: appending, sector: strings.Repeat("z", n)}
		for c.zone = range d.Zones {
			refuse(t, "a wrong length", c, d, api.ErrSize)
		}
		for c.zone = range crowded.Zones {
			refuse(t, "a wrong length, and no room", c, crowded, api.ErrSize)
		}
	}
	for _, s := range []string{strings.Repeat("\x00", 40), strings.Repeat("\xff", 40), strings.Repeat("é", 20)} {
		next, at, e := zns.Append(d, 1, s)
		if at != 2 || e != api.OK {
			t.Errorf("Append of %q: %d, %d", s, at, e)
		}
		if read, e := zns.Read(next, 1, 2); read != s || e != api.OK {
			t.Errorf("Read of %q: %q, %d", s, read, e)
		}
	}
}

func TestReadInEachState(t *testing.T) {
	for _, z := range []api.Zone{
		zone(empty, 0, ""),
		zone(opened, 0, ""), zone(opened, 0, "a"), zone(opened, 1, "ab"),
		zone(held, 0, ""), zone(held, 1, "a"), zone(held, 0, "ab"),
		zone(shut, 0, ""), zone(shut, 0, "a"), zone(shut, 2, "ab"),
		zone(full, 0, ""), zone(full, 1, "a"), zone(full, 2, "ab"), zone(full, 3, "abc"),
	} {
		d := roomy(device(1, 2, zone(full, 3, "pqr"), z, zone(full, 3, "stu")))
		for offset := range z.Sectors {
			if s, e := zns.Read(d, 1, offset); s != sector("abc"[offset]) || e != api.OK {
				t.Errorf("Read of %s, %d: %q, %d", text(d), offset, s, e)
			}
		}
		for _, offset := range append([]int{len(z.Sectors), len(z.Sectors) + 1, 3, 4, 64, -2, -3}, great...) {
			refuse(t, "a wrong offset", call{kind: reading, zone: 1, offset: offset}, d, api.ErrOffset)
		}
	}
	for _, offset := range append([]int{0, 1, 3}, great...) {
		refuse(t, "offline", call{kind: reading, zone: 1, offset: offset}, device(1, 2, zone(full, 3, "pqr"), zone(offline, 0, "")), api.ErrState)
	}
}

func TestResetInEachState(t *testing.T) {
	none := zone(empty, 0, "")
	expectChanges(t, resetting, []change{
		{none, none, api.OK},
		{zone(opened, 0, ""), none, api.OK},
		{zone(opened, 1, "ab"), none, api.OK},
		{zone(held, 0, ""), none, api.OK},
		{zone(held, 0, "ab"), none, api.OK},
		{zone(shut, 0, ""), none, api.OK},
		{zone(shut, 2, "ab"), none, api.OK},
		{zone(full, 0, ""), none, api.OK},
		{zone(full, 1, "a"), none, api.OK},
		{zone(full, 3, "abc"), none, api.OK},
		{zone(offline, 0, ""), zone(offline, 0, ""), api.ErrState},
	})
}

func TestFinishInEachState(t *testing.T) {
	expectChanges(t, finishing, []change{
		{zone(empty, 0, ""), zone(full, 0, ""), api.OK},
		{zone(opened, 0, ""), zone(full, 0, ""), api.OK},
		{zone(opened, 0, "a"), zone(full, 1, "a"), api.OK},
		{zone(opened, 1, "ab"), zone(full, 2, "ab"), api.OK},
		{zone(held, 0, ""), zone(full, 0, ""), api.OK},
		{zone(held, 0, "ab"), zone(full, 2, "ab"), api.OK},
		{zone(held, 2, "ab"), zone(full, 2, "ab"), api.OK},
		{zone(shut, 0, ""), zone(full, 0, ""), api.OK},
		{zone(shut, 0, "a"), zone(full, 1, "a"), api.OK},
		{zone(full, 0, ""), zone(full, 0, ""), api.OK},
		{zone(full, 2, "ab"), zone(full, 2, "ab"), api.OK},
		{zone(full, 3, "abc"), zone(full, 3, "abc"), api.OK},
		{zone(offline, 0, ""), zone(offline, 0, ""), api.ErrState},
	})
}

func TestOpenInEachState(t *testing.T) {
	expectChanges(t, opening, []change{
		{zone(empty, 0, ""), zone(held, 0, ""), api.OK},
		{zone(opened, 0, ""), zone(held, 0, ""), api.OK},
		{zone(opened, 1, "ab"), zone(held, 1, "ab"), api.OK},
		{zone(held, 0, ""), zone(held, 0, ""), api.OK},
		{zone(held, 1, "ab"), zone(held, 1, "ab"), api.OK},
		{zone(shut, 0, ""), zone(held, 0, ""), api.OK},
		{zone(shut, 1, "ab"), zone(held, 1, "ab"), api.OK},
		{zone(full, 0, ""), zone(full, 0, ""), api.ErrFull},
		{zone(full, 1, "a"), zone(full, 1, "a"), api.ErrFull},
		{zone(full, 3, "abc"), zone(full, 3, "abc"), api.ErrFull},
		{zone(offline, 0, ""), zone(offline, 0, ""), api.ErrState},
	})
}

func TestCloseInEachState(t *testing.T) {
	expectChanges(t, closing, []change{
		{zone(empty, 0, ""), zone(empty, 0, ""), api.ErrState},
		{zone(opened, 0, ""), zone(empty, 0, ""), api.OK},
		{zone(opened, 0, "a"), zone(shut, 0, "a"), api.OK},
		{zone(opened, 1, "ab"), zone(shut, 1, "ab"), api.OK},
		{zone(held, 0, ""), zone(empty, 0, ""), api.OK},
		{zone(held, 0, "a"), zone(shut, 0, "a"), api.OK},
		{zone(held, 2, "ab"), zone(shut, 2, "ab"), api.OK},
		{zone(shut, 0, ""), zone(shut, 0, ""), api.OK},
		{zone(shut, 0, "a"), zone(shut, 0, "a"), api.OK},
		{zone(shut, 1, "ab"), zone(shut, 1, "ab"), api.OK},
		{zone(full, 0, ""), zone(full, 0, ""), api.ErrState},
		{zone(full, 3, "abc"), zone(full, 3, "abc"), api.ErrState},
		{zone(offline, 0, ""), zone(offline, 0, ""), api.ErrState},
	})
}

// room is a device whose zone 2 is opened: the zones behind it, but for zone 2, or the error.
type room struct {
	name         string
	open, active int
	zones        []api.Zone
	behind       []api.Zone
	err          api.Errno
}

// rooms are devices in which room is made for zone 2, or is there, or is not to be had.
func rooms() []room {
	none, f := zone(empty, 0, ""), zone(full, 3, "xyz")
	o, h, c := zone(opened, 1, "ab"), zone(held, 1, "cd"), zone(shut, 1, "ab")
	o0, h0, c0 := zone(opened, 0, ""), zone(held, 0, ""), zone(shut, 0, "")
	list := func(l ...api.Zone) []api.Zone { return l }
	return []room{
		{"there is room", 2, 2, list(o, f, none, f), list(o, f, none, f), api.OK},
		{"there is just room", 3, 4, list(o, h, none, c), list(o, h, none, c), api.OK},
		{"one is open", 1, 2, list(f, o, none, f), list(f, c, none, f), api.OK},
		{"one behind is open", 1, 2, list(f, f, none, o), list(f, f, none, c), api.OK},
		{"the least of three", 3, 4, list(o, o, none, o), list(c, o, none, o), api.OK},
		{"the least of two that are not held", 3, 4, list(h, o, none, o), list(h, c, none, o), api.OK},
		{"the last one, and the others are held", 3, 4, list(h, h, none, o), list(h, h, none, c), api.OK},
		{"the one without sectors", 1, 1, list(o0, f, none, f), list(none, f, none, f), api.OK},
		{"the least is without sectors", 3, 3, list(o0, h, none, o), list(none, h, none, o), api.OK},
		{"the least has sectors, the next has none", 2, 2, list(o, o0, none, f), nil, api.ErrActive},
		{"a zone that is held and has no sectors stays", 2, 3, list(h0, o, none, f), list(h0, c, none, f), api.OK},
		{"all are held", 1, 4, list(f, h, none, f), nil, api.ErrOpen},
		{"all three are held", 3, 4, list(h, h0, none, h), nil, api.ErrOpen},
		{"all are held, and too many are active", 1, 2, list(c, h, none, f), nil, api.ErrOpen},
		{"there is room, and too many are active", 2, 2, list(c, o, none, f), nil, api.ErrActive},
		{"closed ones alone are active", 2, 2, list(c, c0, none, f), nil, api.ErrActive},
		{"one is closed and stays active", 1, 1, list(o, f, none, f), nil, api.ErrActive},
		{"one is closed, and three stay active", 2, 3, list(c, h, none, o), nil, api.ErrActive},
		{"closed ones do not become empty", 1, 2, list(c0, o, none, f), nil, api.ErrActive},
		{"for a closed one there is room", 2, 2, list(o, f, c, f), list(o, f, c, f), api.OK},
		{"for a closed one another is closed", 1, 2, list(o, f, c, f), list(c, f, c, f), api.OK},
		{"for a closed one another becomes empty", 1, 2, list(f, f, c, o0), list(f, f, c, none), api.OK},
		{"for a closed one without sectors", 1, 3, list(c0, f, c0, o), list(c0, f, c0, c), api.OK},
		{"for a closed one all may be active", 2, 4, list(h, c, c, o), list(h, c, c, c), api.OK},
		{"for a closed one all are held", 1, 2, list(h, f, c, f), nil, api.ErrOpen},
		{"an open one needs no room", 1, 1, list(f, f, o, f), list(f, f, o, f), api.OK},
		{"an open one needs no room among others", 2, 2, list(o, f, o0, f), list(o, f, o0, f), api.OK},
		{"an open one needs no room, and the others are held", 3, 3, list(h, f, o, h0), list(h, f, o, h0), api.OK},
		{"a held one needs no room", 2, 3, list(o0, f, h, c), list(o0, f, h, c), api.OK},
		{"a full one gets no room", 1, 1, list(o, f, f, f), nil, api.ErrFull},
		{"a full one, and all are held", 1, 1, list(h, f, zone(full, 0, ""), f), nil, api.ErrFull},
		{"an offline one gets no room", 1, 1, list(o0, f, zone(offline, 0, ""), f), nil, api.ErrState},
		{"an offline one, and all are held", 1, 1, list(h, f, zone(offline, 0, ""), f), nil, api.ErrState},
	}
}

func TestRoomForOpen(t *testing.T) {
	for _, r := range rooms() {
		d, want := device(r.open, r.active, r.zones...), device(r.open, r.active, r.zones...)
		if r.err == api.OK {
			want = clone(device(r.open, r.active, r.behind...))
			want.Zones[2].State = held
		}
		expect(t, r.name, call{kind: opening, zone: 2}, d, want, r.err)
	}
}

func TestRoomForAppend(t *testing.T) {
	for _, r := range rooms() {
		d, want := device(r.open, r.active, r.zones...), device(r.open, r.active, r.zones...)
		if r.err == api.OK {
			want = clone(device(r.open, r.active, r.behind...))
			z := &want.Zones[2]
			z.Sectors = append(z.Sectors, sector('z'))
			if len(z.Sectors) == 3 {
				z.State, z.Durable = full, 3
			} else if z.State != held {
				z.State = opened
			}
		}
		expect(t, r.name, call{kind: appending, zone: 2, sector: sector('z')}, d, want, r.err)
	}
}

// TestNoRoomIsMade has calls that make no room, though as many zones as may be are open and active.
func TestNoRoomIsMade(t *testing.T) {
	d := device(2, 2, zone(opened, 0, ""), zone(opened, 1, "ab"), zone(empty, 0, ""), zone(full, 1, "c"))
	for at := range d.Zones {
		expect(t, "Finish", call{kind: finishing, zone: at}, d, replaced(d, at, zone(full, len(d.Zones[at].Sectors), []string{"", "ab", "", "c"}[at])), api.OK)
		expect(t, "Reset", call{kind: resetting, zone: at}, d, replaced(d, at, zone(empty, 0, "")), api.OK)
	}
	expect(t, "Close", call{kind: closing, zone: 0}, d, replaced(d, 0, zone(empty, 0, "")), api.OK)
	expect(t, "Close", call{kind: closing, zone: 1}, d, replaced(d, 1, zone(shut, 1, "ab")), api.OK)
}

func TestCounts(t *testing.T) {
	for _, c := range []struct {
		states       []int
		open, active int
	}{
		{nil, 0, 0},
		{[]int{empty}, 0, 0},
		{[]int{opened}, 1, 1},
		{[]int{held}, 1, 1},
		{[]int{shut}, 0, 1},
		{[]int{full}, 0, 0},
		{[]int{offline}, 0, 0},
		{[]int{-1, 6, 7, 255, 256 + opened, 256 + shut, -opened, math.MinInt, math.MaxInt}, 0, 0},
		{[]int{empty, opened, held, shut, full, offline}, 2, 3},
		{[]int{held, shut, shut, opened, shut, opened, held, held, shut, full, empty}, 5, 9},
	} {
		for _, d := range []api.Device{{}, {Size: 3, MaxOpen: 1, MaxActive: 1}, {Size: -1, MaxOpen: 9, MaxActive: -9}} {
			for _, s := range c.states {
				d.Zones = append(d.Zones, api.Zone{State: s, Durable: -s, Sectors: []string{"x"}})
			}
			if open, active := zns.Counts(d); open != c.open || active != c.active {
				t.Errorf("Counts of %s: %d, %d, want %d, %d", text(d), open, active, c.open, c.active)
			}
		}
	}
	many := api.Device{Zones: make([]api.Zone, 1000)}
	for i := range many.Zones {
		many.Zones[i].State = i % 4
	}
	if open, active := zns.Counts(many); open != 500 || active != 750 {
		t.Errorf("Counts of 1000 zones: %d, %d", open, active)
	}
}

func TestExampleOfTheChapter(t *testing.T) {
	d, _ := zns.New(2, 3, 1, 2)
	d, a, e := zns.Append(d, 0, sector('a'))
	d, b, f := zns.Append(d, 1, sector('b'))
	if want := device(1, 2, zone(shut, 0, "a"), zone(opened, 0, "b")); !same(d, want) || a != 0 || b != 0 || e != api.OK || f != api.OK {
		t.Errorf("%s, %d, %d, %d, %d", text(d), a, b, e, f)
	}
}
