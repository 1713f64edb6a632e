package l2p_test

import (
	"math/rand/v2"
	"slices"
	"testing"

	"zoneappend/api"
	"zoneappend/l2p"
)

// kept is a map that was returned, and what it was then.
type kept struct{ now, then api.Map }

// walker is maps with each number of shards that change step by step in the same way, and what is known of all of them.
type walker struct {
	maps                       []api.Map
	known                      map[int]api.Entry
	returned                   []kept
	installs, relocates, drops int
}

// begin is a walker with new maps.
func begin(t *testing.T) *walker {
	t.Helper()
	w := &walker{known: map[int]api.Entry{}}
	for n := 1; n <= api.MaxShards; n++ {
		w.maps = append(w.maps, made(t, n))
	}
	return w
}

// step changes each of the maps, and expects them to have what is known.
func (w *walker) step(t *testing.T, change func(m api.Map) api.Map) {
	t.Helper()
	all := listed(w.known)
	for i, m := range w.maps {
		next := change(m)
		if !l2p.Valid(next) || !same(next, spread(i+1, all...)) || !slices.Equal(l2p.All(next), all) {
			t.Fatalf("%v\nbecame %v\nwhich should have %v", m, next, all)
		}
		w.maps[i] = next
		w.returned = append(w.returned, kept{next, copied(next)})
	}
}

// install installs an entry in all maps.
func (w *walker) install(t *testing.T, e api.Entry) {
	t.Helper()
	old, there := w.known[e.Block]
	done := !there || old.Version < e.Version
	if done {
		w.known[e.Block] = e
		w.installs++
	}
	w.step(t, func(m api.Map) api.Map {
		next, got, ok := l2p.Install(m, e)
		if got != old || ok != done {
			t.Fatalf("Install of %v into %v\n= %v, %t, want %v, %t", e, m, got, ok, old, done)
		}
		return next
	})
}

// relocate moves an entry in all maps.
func (w *walker) relocate(t *testing.T, r move) {
	t.Helper()
	e, done := w.known[r.block]
	done = done && e.Version == r.version && e.Place == r.from
	if done {
		w.known[r.block] = r.moved(e)
		w.relocates++
	}
	w.step(t, func(m api.Map) api.Map {
		next, ok := r.relocate(m)
		if ok != done {
			t.Fatalf("Relocate of %+v in %v: %t", r, m, ok)
		}
		return next
	})
}

// drop drops tombstones in all shards of all maps.
func (w *walker) drop(t *testing.T, cut int) {
	t.Helper()
	var old []api.Entry
	for _, e := range listed(w.known) {
		if e.Kind == trim && e.Version < cut {
			old = append(old, e)
			delete(w.known, e.Block)
			w.drops++
		}
	}
	w.step(t, func(m api.Map) api.Map {
		var gone []api.Entry
		for stripe := range m.Shards {
			next, l := l2p.Drop(m, stripe, cut)
			for _, e := range l {
				if l2p.Stripe(m, e.Block) != stripe {
					t.Fatalf("Drop of the shard %d of %v dropped %v", stripe, m, e)
				}
			}
			m, gone = next, append(gone, l...)
		}
		slices.SortFunc(gone, byBlock)
		if !slices.Equal(gone, old) {
			t.Fatalf("with the cut %d went %v, want %v", cut, gone, old)
		}
		return m
	})
}

// someMove is a move of a block that may be there, and once in a while from where it is not.
func (w *walker) someMove(r *rand.Rand, among int) move {
	block := r.IntN(among)
	e := w.known[block]
	m := move{block, e.Version, e.Place, place(r.IntN(8), r.IntN(8)), min(e.Move+1, 255)}
	switch r.IntN(8) {
	case 0:
		m.version++
	case 1:
		m.from.Offset++
	}
	return m
}

// holdReturned expects that the maps that were returned are what they were.
func (w *walker) holdReturned(t *testing.T) {
	t.Helper()
	for i, k := range w.returned {
		if !same(k.now, k.then) {
			t.Fatalf("the map %d of %d: %v\nbecame %v", i, len(w.returned), k.then, k.now)
		}
	}
}

// TestWalks has the same installs, relocations and drops for maps with each number of shards, which have the same
// entries behind each step.
func TestWalks(t *testing.T) {
	for seed := range uint64(3) {
		for _, among := range []int{1, 2, 7, 8, 30, 128} {
			r := rand.New(rand.NewPCG(seed, 9))
			w := begin(t)
			for step := range 400 {
				switch r.IntN(10) {
				case 0:
					w.drop(t, step-r.IntN(40))
				case 1, 2, 3:
					w.relocate(t, w.someMove(r, among))
				default:
					version := max(step-r.IntN(30), 1) // mostly greater ones, as a device has them
					w.install(t, api.Entry{Block: r.IntN(among), Kind: 1 + r.IntN(2), Version: version, Place: place(r.IntN(8), r.IntN(8))})
				}
			}
			w.holdReturned(t)
			if w.installs == 0 || w.relocates == 0 || w.drops == 0 {
				t.Errorf("a walk of %d blocks with %d installs, %d relocations and %d drops", among, w.installs, w.relocates, w.drops)
			}
		}
	}
}

// TestManyFromOne makes many maps of one, and of each of these: none changes another one.
func TestManyFromOne(t *testing.T) {
	for _, n := range counts() {
		level := []kept{{wide(n, 2), wide(n, 2)}}
		all := slices.Clone(level)
		for range 3 {
			var next []kept
			for _, from := range level {
				for i := range min(n, 3) {
					a, _, _ := l2p.Install(from.now, entry(trim, len(next)%2*n+i, 200+len(all)+len(next)))
					b, _ := moving(l2p.All(from.now)[i]).relocate(from.now)
					c, _ := l2p.Drop(from.now, i, 115)
					next = append(next, kept{a, copied(a)}, kept{b, copied(b)}, kept{c, copied(c)})
				}
			}
			all = append(all, next...)
			level = next
		}
		w := walker{returned: all}
		w.holdReturned(t)
	}
}

// TestResultsOfAllAreNew writes into what All and Drop returned, as nobody should: no map changes.
func TestResultsOfAllAreNew(t *testing.T) {
	for _, n := range counts() {
		m := wide(n, 3)
		l := l2p.All(m)
		next, gone := l2p.Drop(m, 0, 1000)
		then := copied(next)
		for _, written := range [][]api.Entry{l, gone} {
			_ = append(written, none, none)
			clear(written)
		}
		if !same(m, wide(n, 3)) || !same(next, then) {
			t.Errorf("%d shards: a map has changed", n)
		}
	}
}
