package victim_test

import (
	"math/rand/v2"
	"reflect"
	"strings"
	"testing"

	"zoneappend/api"
	"zoneappend/epoch"
	"zoneappend/layout"
	"zoneappend/live"
	"zoneappend/pool"
	"zoneappend/victim"
	"zoneappend/zns"
)

// walker is a state that blocks are written to, and a book of where each block is. The last sector of a zone is left to its summary.
type walker struct {
	shape
	t     *testing.T
	s     api.State
	book  map[int]api.Place
	count int // how many sectors were appended
	kept  []keep
}

// keep is a state and a copy of it from the time when it was there.
type keep struct{ given, then api.State }

// begin is a walker with an empty device all of whose data zones are free.
func begin(t *testing.T, x shape) *walker {
	t.Helper()
	w := &walker{shape: x, t: t, s: api.State{Config: x.c}, book: map[int]api.Place{}}
	w.s.Device, _ = zns.New(x.c.Zones, x.c.Size, 3, 3)
	w.s.Counts, _ = live.New(x.c.Zones)
	w.s.Epochs, _ = epoch.New(x.c.Queues)
	w.s.Pool = api.Pool{Free: x.all(), Host: -1, Cleaner: -1}
	return w
}

// must expects that a call was done.
func (w *walker) must(ok bool) {
	w.t.Helper()
	if !ok {
		w.t.Fatalf("%+v: refused", w.s)
	}
}

// lane is the lane of the host or of the cleaner.
func (w *walker) lane(host bool) int {
	if host {
		return w.s.Pool.Host
	}
	return w.s.Pool.Cleaner
}

// take sees to a lane, and tells whether there is one.
func (w *walker) take(host bool) bool {
	var ok bool
	switch {
	case w.lane(host) >= 0:
		return true
	case host:
		w.s.Pool, ok = pool.Host(w.s.Pool, w.c)
	default:
		w.s.Pool, ok = pool.Cleaner(w.s.Pool, w.c)
	}
	return ok
}

// sector appends a sector to a zone, and returns its place.
func (w *walker) sector(zone int) api.Place {
	w.t.Helper()
	d, offset, err := zns.Append(w.s.Device, zone, strings.Repeat(string(rune('a'+w.count%26)), api.SectorBytes))
	w.must(err == api.OK)
	w.s.Device = d
	w.count++
	return api.Place{Zone: zone, Offset: offset}
}

// leave leaves a lane behind its end.
func (w *walker) leave(host bool) {
	w.t.Helper()
	p, ok := pool.Leave(w.s.Pool, w.c, host)
	w.must(ok)
	w.s.Pool = p
}

// put appends a record of a block to a lane, and names it in the book. While it is appended it is pending.
func (w *walker) put(block int, host bool) {
	w.t.Helper()
	zone := w.lane(host)
	place := w.sector(zone)
	var ok bool
	w.s.Counts, ok = live.Begin(w.s.Counts, zone)
	w.must(ok)
	if len(w.s.Device.Zones[zone].Sectors) == w.c.Size-1 {
		w.sector(zone)
		w.leave(host)
		w.hold()
	}
	old, had := w.book[block]
	w.s.Counts, ok = live.Change(w.s.Counts, api.Entry{Block: block, Place: old}, api.Entry{Block: block, Place: place}, had, true)
	w.must(ok)
	w.s.Counts, ok = live.End(w.s.Counts, zone)
	w.must(ok)
	w.book[block] = place
}

// drop drops the entry of a block.
func (w *walker) drop(block int) {
	w.t.Helper()
	old, had := w.book[block]
	c, ok := live.Change(w.s.Counts, api.Entry{Block: block, Place: old}, api.Entry{}, had, false)
	w.must(ok)
	w.s.Counts = c
	delete(w.book, block)
}

// finish finishes a lane early.
func (w *walker) finish(host bool) {
	w.t.Helper()
	if zone := w.lane(host); zone >= 0 {
		d, err := zns.Finish(w.s.Device, zone)
		w.must(err == api.OK)
		w.s.Device = d
		w.leave(host)
	}
}

// lively is how many records of a zone the book has.
func (w *walker) lively(zone int) int {
	n := 0
	for _, place := range w.book {
		if place.Zone == zone {
			n++
		}
	}
	return n
}

// room is how many sectors can still be appended to data zones, and how many of them can be records.
func (w *walker) room() (sectors, records int) {
	for _, zone := range w.all() {
		z := w.s.Device.Zones[zone]
		if z.State != api.ZoneFull {
			sectors += w.c.Size - len(z.Sectors)
			records += w.c.Size - 1 - len(z.Sectors)
		}
	}
	return sectors, records
}

// hold holds Choose, Dead and Can against the book: of the full zones that are no lanes, not retired and without pending appends, the
// one of which the book names the fewest records.
func (w *walker) hold() {
	w.t.Helper()
	w.keep()
	best, least, dead := 0, w.c.Size-1, 0
	for zone, z := range w.s.Device.Zones {
		n := w.lively(zone)
		gone := zone == w.s.Pool.Host || zone == w.s.Pool.Cleaner || w.s.Counts.Pending[zone] > 0 || n >= w.c.Size-1
		for _, r := range w.s.Epochs.Zones {
			gone = gone || r.Zone == zone
		}
		can := layout.IsData(w.c, zone) && z.State == api.ZoneFull && !gone
		if victim.Can(w.s, zone) != can {
			w.t.Fatalf("Can of %d of %+v: %t", zone, w.s, !can)
		}
		if can {
			dead += w.c.Size - 1 - n
		}
		if can && n < least {
			best, least = zone, n
		}
		if used := victim.Used(w.s.Device, zone); used > w.c.Size-1 || used < n {
			w.t.Fatalf("Used of %d of %+v: %d, of which %d are live", zone, w.s, used, n)
		}
	}
	zone, ok := victim.Choose(w.s)
	if zone != best || ok != (least < w.c.Size-1) || victim.Dead(w.s) != dead || ok != (dead > 0) {
		w.t.Fatalf("%+v: chosen %d, %t, dead %d; want %d, dead %d", w.s, zone, ok, victim.Dead(w.s), best, dead)
	}
}

// keep keeps some of the states.
func (w *walker) keep() {
	if len(w.kept) < 40 {
		w.kept = append(w.kept, keep{w.s, own(w.s)})
	}
}

// holdKept expects that the states that were kept are what they were.
func (w *walker) holdKept() {
	w.t.Helper()
	for _, k := range w.kept {
		if !reflect.DeepEqual(k.given, k.then) {
			w.t.Fatalf("%+v\nbecame %+v", k.then, k.given)
		}
	}
	w.kept = nil
}

// copies copies the live records of a zone to the lane of the cleaner.
func (w *walker) copies(zone int) {
	w.t.Helper()
	for offset := range victim.Used(w.s.Device, zone) {
		for block := range w.c.Blocks {
			if place, ok := w.book[block]; ok && place == (api.Place{Zone: zone, Offset: offset}) {
				w.must(w.take(false))
				w.put(block, false)
			}
		}
	}
}

// reset resets a zone that nobody reads.
func (w *walker) reset(zone int) {
	w.t.Helper()
	var ok bool
	w.s.Epochs, ok = epoch.Retire(w.s.Epochs, zone)
	w.must(ok)
	w.hold() // without the zone
	for range 2 {
		w.s.Epochs, ok = epoch.Advance(w.s.Epochs)
		w.must(ok)
	}
	w.s.Epochs, ok = epoch.Forget(w.s.Epochs, zone)
	w.must(ok)
	d, err := zns.Reset(w.s.Device, zone)
	w.must(err == api.OK)
	w.s.Device = d
	w.s.Pool, ok = pool.Put(w.s.Pool, w.c, zone)
	w.must(ok)
}

// clean cleans the zone that is chosen, if there is one, and expects that this gives back what the consequence says.
func (w *walker) clean() bool {
	w.t.Helper()
	zone, ok := victim.Choose(w.s)
	if !ok {
		return false
	}
	z := w.s.Device.Zones[zone]
	sectors, records := w.room()
	dead, gain := victim.Dead(w.s), w.c.Size-1-w.lively(zone)
	w.copies(zone)
	if w.lively(zone) != 0 {
		w.t.Fatalf("%+v: %d still has records of the book", w.s, zone)
	}
	w.reset(zone)
	after, more := w.room()
	if after < sectors+1 || more != records+gain || gain < 1 || dead < gain {
		w.t.Fatalf("cleaning %d, %+v, of %+v: %d sectors and %d records became %d and %d", zone, z, w.s, sectors, records, after, more)
	}
	w.hold()
	return true
}

// write writes a block, and cleans as long as there is no lane. It tells whether there was one in the end.
func (w *walker) write(block int) bool {
	w.t.Helper()
	for !w.take(true) {
		if !w.clean() {
			return false
		}
	}
	w.put(block, true)
	return true
}

// TestCleaningGives writes as many different blocks as the capacity says over and over, and cleans where there is no lane: each
// cleaning gives at least one sector back, and there is always a victim.
func TestCleaningGives(t *testing.T) {
	for _, x := range shapes {
		l, _ := layout.Of(x.c)
		blocks := min(x.c.Blocks, l.Capacity)
		for seed := range uint64(3) {
			r := rand.New(rand.NewPCG(seed, uint64(x.c.Size)))
			w := begin(t, x)
			for range 12 * len(x.all()) * min(x.c.Size, 12) {
				w.must(w.write(r.IntN(blocks)))
				w.hold()
			}
			w.holdKept()
		}
	}
}

// TestCleaningUneven writes few blocks often and the others seldom, drops some, and finishes lanes early.
func TestCleaningUneven(t *testing.T) {
	for _, x := range shapes {
		for seed := range uint64(3) {
			r := rand.New(rand.NewPCG(seed, uint64(x.first)))
			w := begin(t, x)
			for range 300 {
				switch r.IntN(12) {
				case 0:
					w.drop(r.IntN(x.c.Blocks))
				case 1:
					w.finish(true)
				case 2:
					w.clean()
				default:
					w.write(r.IntN(1 + r.IntN(x.c.Blocks)))
				}
				w.hold()
			}
			w.holdKept()
		}
	}
}

// TestCleaningAlmostFull has zones all of whose records but one are live: of these, too, each cleaning gives a sector back.
func TestCleaningAlmostFull(t *testing.T) {
	for _, x := range shapes {
		most := x.c.Size - 1
		for before := range most { // how many records the lane of the cleaner has at first
			if before+most > x.c.Blocks {
				continue
			}
			w := begin(t, x)
			block := 0
			for range most {
				w.must(w.write(block))
				block++
			}
			for range before {
				w.must(w.take(false))
				w.put(block, false)
				block++
			}
			w.hold()
			if _, ok := victim.Choose(w.s); ok {
				t.Fatalf("%+v: a zone without dead records is chosen", w.s)
			}
			w.drop(0)
			w.must(w.clean())
			if _, ok := victim.Choose(w.s); ok && before == 0 {
				t.Fatalf("%+v: a zone without dead records is chosen", w.s)
			}
		}
	}
}

// TestCleaningFinished has zones that were finished early with nothing but live records: each cleaning gives a sector back.
func TestCleaningFinished(t *testing.T) {
	for _, x := range shapes {
		for n := range x.c.Size - 1 {
			if n > x.c.Blocks {
				continue
			}
			w := begin(t, x)
			w.must(w.take(true))
			for block := range n {
				w.put(block, true)
			}
			w.finish(true)
			w.hold()
			w.must(w.clean())
		}
	}
}

// TestManyFromOne calls all functions with one state again and again: the results depend on the state alone.
func TestManyFromOne(t *testing.T) {
	for _, x := range shapes {
		s := x.lively(1, map[int]int{x.last: 0, x.first: 0})
		for range 20 {
			holdChosen(t, s, x.first, len(x.all())*(x.c.Size-2)+2, x.all()...)
			other := own(s)
			other.Counts.Live[x.first] = 1
			holdChosen(t, other, x.last, len(x.all())*(x.c.Size-2)+1, x.all()...)
		}
	}
}
