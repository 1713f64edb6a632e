package shard_test

import (
	"math/rand/v2"
	"slices"
	"testing"

	"zoneappend/api"
	"zoneappend/shard"
)

// installed calls Install, and expects a shard.
func installed(t *testing.T, l []api.Entry, e api.Entry) ([]api.Entry, api.Entry, bool) {
	t.Helper()
	next, old, ok := shard.Install(l, e)
	if !shard.Valid(next) || !expectValid(next) {
		t.Fatalf("Install of %v into %v\n= %v, no shard", e, l, next)
	}
	return next, old, ok
}

// kept is a list that was returned, and what it was then.
type kept struct{ list, then []api.Entry }

// keeping is a list that was returned.
func keeping(l []api.Entry) kept { return kept{l, slices.Clone(l)} }

// holdKept expects that the lists that were returned are what they were.
func holdKept(t *testing.T, l []kept) {
	t.Helper()
	for i, k := range l {
		if !same(k.list, k.then) {
			t.Fatalf("the list %d of %d: %v\nbecame %v", i, len(l), k.then, k.list)
		}
	}
}

// walker is a shard that changes step by step, and what is known of it.
type walker struct {
	list      []api.Entry
	greatest  map[int]int // the greatest version that was installed for a block since it was dropped
	kinds     map[int]int // the kind that was installed with it
	returned  []kept
	installs  int
	relocates int
	drops     int
}

// keep takes a list for the shard of the walk, and remembers it.
func (w *walker) keep(l []api.Entry) {
	w.list = l
	w.returned = append(w.returned, keeping(l))
}

// install installs an entry.
func (w *walker) install(t *testing.T, e api.Entry) {
	t.Helper()
	want, there, done := expectInstall(w.list, e)
	l, old, ok := installed(t, w.list, e)
	if !same(l, want) || old != there || ok != done {
		t.Fatalf("Install of %v into %v\n= %v, %v, %t", e, w.list, l, old, ok)
	}
	if ok {
		w.installs++
		w.greatest[e.Block], w.kinds[e.Block] = e.Version, e.Kind
	}
	w.keep(l)
}

// relocate moves an entry.
func (w *walker) relocate(t *testing.T, m move) {
	t.Helper()
	want, done := expectRelocate(w.list, m)
	l, ok := m.relocate(w.list)
	if !same(l, want) || ok != done {
		t.Fatalf("Relocate of %+v in %v\n= %v, %t", m, w.list, l, ok)
	}
	if ok {
		w.relocates++
	}
	w.keep(l)
}

// drop drops tombstones.
func (w *walker) drop(t *testing.T, cut int) {
	t.Helper()
	keep, drop := expectDrop(w.list, cut)
	l, gone := shard.Drop(w.list, cut)
	if !same(l, keep) || !same(gone, drop) || !shard.Valid(gone) {
		t.Fatalf("Drop of %v with the cut %d\n= %v, %v", w.list, cut, l, gone)
	}
	for _, e := range gone {
		w.drops++
		delete(w.greatest, e.Block)
		delete(w.kinds, e.Block)
	}
	w.keep(l)
	w.returned = append(w.returned, keeping(gone))
}

// hold expects that the shard has the blocks that were installed and not dropped, with their greatest versions.
func (w *walker) hold(t *testing.T) {
	t.Helper()
	if !shard.Valid(w.list) || len(w.list) != len(w.greatest) {
		t.Fatalf("%v\nis no shard with %d entries", w.list, len(w.greatest))
	}
	for block, version := range w.greatest {
		e, ok := shard.Find(w.list, block)
		if !ok || e.Block != block || e.Version != version || e.Kind != w.kinds[block] {
			t.Fatalf("Find of the block %d in %v\n= %v, %t, want the version %d", block, w.list, e, ok, version)
		}
	}
}

// someMove is a move of an entry of a list, and once in a while one of what it has not.
func someMove(r *rand.Rand, l []api.Entry) move {
	if len(l) == 0 {
		return move{block: 1, version: 1}
	}
	e := l[r.IntN(len(l))]
	m := move{e.Block, e.Version, e.Place, place(r.IntN(8), r.IntN(8)), min(e.Move+1, 255)}
	switch r.IntN(12) {
	case 0:
		m.version += 1 - r.IntN(3)
	case 1:
		m.from = place(r.IntN(8), r.IntN(8))
	case 2:
		m.to = place(r.IntN(3)-1, r.IntN(3)-1)
	case 3:
		m.block = r.IntN(50)
	case 4:
		m.move = r.IntN(520) - 130
	}
	return m
}

// walk changes a shard in many steps.
func walk(t *testing.T, seed uint64, among, versions int) *walker {
	t.Helper()
	r := rand.New(rand.NewPCG(seed, 8))
	w := &walker{greatest: map[int]int{}, kinds: map[int]int{}}
	for step := range 1500 {
		switch r.IntN(10) {
		case 0:
			w.drop(t, r.IntN(versions)-1)
		case 1, 2, 3:
			w.relocate(t, someMove(r, w.list))
		default:
			version := r.IntN(versions)
			if versions > 1000 { // Mostly greater ones, as a device has them.
				version = max(step*versions/1600-r.IntN(60)*versions/6000, 0)
			}
			w.install(t, api.Entry{Block: r.IntN(among), Kind: 1 + r.IntN(2), Version: version, Place: place(r.IntN(8), r.IntN(8))})
		}
		w.hold(t)
	}
	holdKept(t, w.returned)
	return w
}

func TestWalks(t *testing.T) {
	for seed := range uint64(4) {
		for _, c := range [][2]int{{1, 2000}, {2, 9000}, {7, 20000}, {40, 90}, {128, 100000}, {1000, 1000000}} {
			w := walk(t, seed, c[0], c[1])
			if w.installs == 0 || w.relocates == 0 || w.drops == 0 {
				t.Errorf("a walk of %d blocks with %d installs, %d relocations and %d drops", c[0], w.installs, w.relocates, w.drops)
			}
		}
	}
}

// TestManyFromOne makes many lists of each of a few shards, and of what comes of them: none changes another one.
func TestManyFromOne(t *testing.T) {
	var l []kept
	level := []kept{keeping(nil), keeping(long(3)), keeping(long(4)), keeping(long(9))}
	for range 3 {
		var next []kept
		for _, from := range level {
			for _, block := range []int{0, 4, 5, 30} {
				made, _, _ := installed(t, from.list, entry(trim, block, 1000+len(l)+len(next)))
				next = append(next, keeping(made))
			}
			for _, e := range from.list {
				made, _ := moving(e).relocate(from.list)
				next = append(next, keeping(made))
			}
			some, gone := shard.Drop(from.list, 103)
			next = append(next, keeping(some), keeping(gone))
		}
		l = append(l, level...)
		level = next
	}
	holdKept(t, append(l, level...))
}

// TestResultsOwnTheirMemory writes into lists that were returned for changes, as nobody should: no other list changes.
func TestResultsOwnTheirMemory(t *testing.T) {
	l := long(6)
	given := keeping(l)
	added, _, _ := installed(t, l, entry(data, 5, 1))
	newer, _, _ := installed(t, l, entry(data, 4, 999))
	moved, _ := moving(l[2]).relocate(l)
	some, gone := shard.Drop(l, api.MaxVersion+1)
	made := []kept{keeping(added), keeping(newer), keeping(moved), keeping(some), keeping(gone)}
	for i, k := range made {
		_ = append(k.list, none, none, none)
		for at := range k.list {
			k.list[at] = none
		}
		_ = append(k.list[:0], none)
		holdKept(t, made[i+1:])
		holdKept(t, []kept{given})
	}
}
