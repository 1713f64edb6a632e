package live_test

import (
	"math/rand/v2"
	"slices"
	"testing"

	"zoneappend/api"
	"zoneappend/l2p"
	"zoneappend/live"
)

// kept is counters that were returned, and what they were then.
type kept struct{ now, then api.Counts }

// walker is a map and counters that follow it, appends that are not installed yet, and what has happened.
type walker struct {
	zones                               int
	m                                   api.Map
	c                                   api.Counts
	pending                             []api.Entry
	returned                            []kept
	begun, installs, late, moves, drops int
}

// begin is a walker with a new map and new counters.
func begin(t *testing.T, zones, shards int) *walker {
	t.Helper()
	m, e := l2p.New(shards)
	if e != api.OK {
		t.Fatalf("%d shards: %d", shards, e)
	}
	return &walker{zones: zones, m: m, c: made(t, zones)}
}

// became has the counters that a call returned; the call has to have been possible.
func (w *walker) became(t *testing.T, c api.Counts, ok bool) {
	t.Helper()
	if !ok {
		t.Fatalf("%v: a change was refused", w.c)
	}
	w.c = c
	w.returned = append(w.returned, kept{c, copied(c)})
}

// appended appends the record of an entry.
func (w *walker) appended(t *testing.T, e api.Entry) {
	t.Helper()
	c, ok := live.Begin(w.c, e.Place.Zone)
	w.became(t, c, ok)
	w.pending = append(w.pending, e)
	w.begun++
}

// installed installs an entry whose record was appended.
func (w *walker) installed(t *testing.T, i int) {
	t.Helper()
	e := w.pending[i]
	w.pending = slices.Delete(w.pending, i, i+1)
	m, old, ok := l2p.Install(w.m, e)
	if ok {
		c, ok := live.Change(w.c, old, e, old.Kind != 0, true)
		w.became(t, c, ok)
		w.installs++
	} else {
		w.late++
	}
	w.m = m
	c, ok := live.End(w.c, e.Place.Zone)
	w.became(t, c, ok)
}

// moved moves the entry of a block to another place, which may be in the same zone.
func (w *walker) moved(t *testing.T, block int, to api.Place) {
	t.Helper()
	old, ok := l2p.Lookup(w.m, block)
	if !ok {
		return
	}
	w.m, ok = l2p.Relocate(w.m, block, old.Version, old.Place, to, min(old.Move+1, api.MaxMove))
	fresh, there := l2p.Lookup(w.m, block)
	if !ok || !there {
		t.Fatalf("%v did not move", old)
	}
	c, ok := live.Change(w.c, old, fresh, true, true)
	w.became(t, c, ok)
	w.moves++
}

// dropped drops the old tombstones of all shards.
func (w *walker) dropped(t *testing.T, cut int) {
	t.Helper()
	for stripe := range w.m.Shards {
		m, gone := l2p.Drop(w.m, stripe, cut)
		for _, e := range gone {
			c, ok := live.Change(w.c, e, none, true, false)
			w.became(t, c, ok)
			w.drops++
		}
		w.m = m
	}
}

// hold expects that the counters are those of the map and of the appends.
func (w *walker) hold(t *testing.T) {
	t.Helper()
	all := l2p.All(w.m)
	want := api.Counts{Live: make([]int, w.zones), Pending: make([]int, w.zones)}
	for _, e := range all {
		want.Live[e.Place.Zone]++
	}
	for _, e := range w.pending {
		want.Pending[e.Place.Zone]++
	}
	if !live.Valid(w.c) || !same(w.c, want) {
		t.Fatalf("%v, want %v", w.c, want)
	}
	of, ok := live.Of(w.zones, all)
	if !ok || !slices.Equal(of.Live, w.c.Live) || slices.Max(of.Pending) != 0 {
		t.Fatalf("%v, but Of of %v: %v, %t", w.c, all, of, ok)
	}
	for zone := range w.zones {
		if _, clear := live.Clear(w.c, zone); clear != (want.Live[zone]+want.Pending[zone] == 0) {
			t.Fatalf("Clear of the zone %d of %v: %t", zone, w.c, clear)
		}
	}
}

// holdReturned expects that the counters that were returned are what they were.
func (w *walker) holdReturned(t *testing.T) {
	t.Helper()
	for i, k := range w.returned {
		if !same(k.now, k.then) {
			t.Fatalf("the counters %d of %d: %v\nbecame %v", i, len(w.returned), k.then, k.now)
		}
	}
}

// TestWalks follows a map through appends that are installed in another order, moves and drops.
func TestWalks(t *testing.T) {
	for seed := range uint64(3) {
		for _, zones := range []int{1, 2, 6, api.MaxZones} {
			r := rand.New(rand.NewPCG(seed, 10))
			w := begin(t, zones, 1+r.IntN(api.MaxShards))
			somewhere := func() api.Place { return api.Place{Zone: r.IntN(zones), Offset: r.IntN(8)} }
			for step := range 1500 {
				switch n := r.IntN(12); {
				case n == 0:
					w.dropped(t, step-r.IntN(300))
				case n < 3:
					w.moved(t, r.IntN(20), somewhere())
				case n < 7 || len(w.pending) == 0:
					w.appended(t, api.Entry{Block: r.IntN(20), Kind: 1 + r.IntN(2), Version: 1 + step, Place: somewhere()})
				default:
					w.installed(t, r.IntN(len(w.pending)))
				}
				w.hold(t)
			}
			w.holdReturned(t)
			if w.begun == 0 || w.installs == 0 || w.late == 0 || w.moves == 0 || w.drops == 0 {
				t.Errorf("%d zones: %d begun, %d installs, %d late, %d moves, %d drops", zones, w.begun, w.installs, w.late, w.moves, w.drops)
			}
		}
	}
}

// TestAllRows follows a map through all rows of up to five installs, moves and drops of two blocks.
func TestAllRows(t *testing.T) {
	entry := func(kind, block, version, zone int) api.Entry {
		return api.Entry{Block: block, Kind: kind, Version: version, Place: api.Place{Zone: zone, Offset: version}}
	}
	install := func(e api.Entry) func(w *walker) {
		return func(w *walker) {
			w.appended(t, e)
			w.installed(t, 0)
		}
	}
	steps := []func(w *walker){
		install(entry(api.KindData, 0, 1, 0)),
		install(entry(api.KindTrim, 0, 2, 0)),
		install(entry(api.KindData, 0, 3, 1)),
		install(entry(api.KindTrim, 1, 4, 2)),
		func(w *walker) { w.moved(t, 0, api.Place{Zone: 0, Offset: 7}) },
		func(w *walker) { w.moved(t, 1, api.Place{Zone: 1, Offset: 7}) },
		func(w *walker) { w.dropped(t, 5) },
	}
	for _, row := range lists(5, steps) {
		w := begin(t, 3, 2)
		for _, step := range row {
			step(w)
			w.hold(t)
		}
		w.holdReturned(t)
	}
}

// TestManyFromOne makes many counters of one, and of each of these: none changes another one.
func TestManyFromOne(t *testing.T) {
	for _, n := range sizes() {
		level := []kept{{wide(n), wide(n)}}
		all := slices.Clone(level)
		for range 3 {
			var next []kept
			for _, from := range level {
				for _, zone := range ends(n) {
					a, _ := live.Begin(from.now, zone)
					b, _ := live.End(from.now, zone)
					c, _ := live.Change(from.now, in(zone), in(n-1), true, false)
					d, _ := live.Change(from.now, in(0), in(zone), true, true)
					for _, made := range []api.Counts{a, b, c, d} {
						next = append(next, kept{made, copied(made)})
					}
				}
			}
			all = append(all, next...)
			level = next
		}
		w := walker{returned: all}
		w.holdReturned(t)
	}
}
