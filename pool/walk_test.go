package pool_test

import (
	"math/rand/v2"
	"slices"
	"strconv"
	"testing"

	"zoneappend/api"
	"zoneappend/pool"
)

// What a zone is in a book.
const (
	away = iota
	isFree
	isHost
	isCleaner
)

// walker is a pool, and a book of what each data zone is.
type walker struct {
	shape
	p    api.Pool
	book map[int]int
}

// begin is a walker with an empty pool.
func begin(s shape) *walker {
	w := &walker{shape: s, p: of(-1, -1), book: map[int]int{}}
	for _, zone := range s.all() {
		w.book[zone] = away
	}
	return w
}

// are are the zones that are something, ascending.
func (w *walker) are(what int) []int {
	return except(w.all(), slices.DeleteFunc(w.all(), func(zone int) bool { return w.book[zone] == what })...)
}

// pass writes into the book that a zone that was one thing is another one. It tells whether there is such a zone.
func (w *walker) pass(l []int, to int) bool {
	if len(l) > 0 {
		w.book[l[0]] = to
	}
	return len(l) > 0
}

// note writes into the book what a call does, and tells whether it is possible.
func (w *walker) note(x call, zone int) bool {
	switch x.name {
	case host.name:
		return len(w.are(isHost)) == 0 && len(w.are(isFree)) > api.Reserve && w.pass(w.are(isFree), isHost)
	case cleaner.name:
		return len(w.are(isCleaner)) == 0 && w.pass(w.are(isFree), isCleaner)
	case leaveHost.name:
		return w.pass(w.are(isHost), away)
	case leaveCleaner.name:
		return w.pass(w.are(isCleaner), away)
	}
	what, data := w.book[zone]
	return data && what == away && w.pass([]int{zone}, isFree)
}

// step does a call, and holds the pool against the book, and against the consequences.
func (w *walker) step(t *testing.T, x call, zone int) bool {
	t.Helper()
	before := w.p
	next, ok := x.do(w.p, w.c)
	w.p = next
	if possible := w.note(x, zone); ok != possible || !slices.Equal(next.Free, w.are(isFree)) ||
		next.Host != w.lane(isHost) || next.Cleaner != w.lane(isCleaner) || !pool.Valid(next, w.c) {
		t.Fatalf("%s of %+v\n= %+v, %t, want %t and %v", x.name, before, next, ok, possible, w.book)
	}
	if more, want := len(expectZones(next))-len(expectZones(before)), change(x, ok); more != want {
		t.Fatalf("%s of %+v\n= %+v: %d zones more, want %d", x.name, before, next, more, want)
	}
	if x.name == host.name && ok && (len(next.Free) < api.Reserve || next.Host > slices.Min(next.Free)) {
		t.Fatalf("Host of %+v\n= %+v", before, next)
	}
	return ok
}

// lane is the zone that is a lane in the book, or -1.
func (w *walker) lane(what int) int {
	if l := w.are(what); len(l) > 0 {
		return l[0]
	}
	return -1
}

// change is how many zones more a pool has behind a call.
func change(x call, ok bool) int {
	switch {
	case !ok || x.name == host.name || x.name == cleaner.name:
		return 0
	case x.name == leaveHost.name || x.name == leaveCleaner.name:
		return -1
	}
	return 1
}

// fork is a walker of its own that stands at the same place.
func (w *walker) fork() *walker {
	f := &walker{shape: w.shape, p: w.p, book: map[int]int{}}
	for zone, what := range w.book {
		f.book[zone] = what
	}
	return f
}

// key is a text that tells a pool from others.
func key(p api.Pool) string {
	s := strconv.Itoa(p.Host) + " " + strconv.Itoa(p.Cleaner)
	for _, zone := range p.Free {
		s += " " + strconv.Itoa(zone)
	}
	return s
}

// move is a call, with the zone if it is a Put.
type move struct {
	call
	zone int
}

// moves are the calls of both lanes, and Put of some zones.
func moves(zones []int) []move {
	var l []move
	for _, x := range lanes {
		l = append(l, move{x, -1})
	}
	for _, zone := range zones {
		l = append(l, move{put(zone), zone})
	}
	return l
}

// TestAllWays goes all ways from an empty pool.
func TestAllWays(t *testing.T) {
	start := begin(small)
	seen := map[string]bool{key(start.p): true}
	for level := []*walker{start}; len(level) > 0; {
		var next []*walker
		for _, w := range level {
			for _, m := range moves(zones(1, 8)) {
				f := w.fork()
				if f.step(t, m.call, m.zone); !seen[key(f.p)] {
					seen[key(f.p)] = true
					next = append(next, f)
				}
			}
		}
		level = next
	}
	// All valid pools but those in which the host has one of the last Reserve zones, 6 and 7: it takes the least one.
	if want := 64 + (6+4)*32 + 4*5*16; len(seen) != want {
		t.Errorf("%d pools, want %d", len(seen), want)
	}
}

// kept is a pool that was returned, and what it was then.
type kept struct{ now, then api.Pool }

// holdKept expects that pools that were returned are what they were.
func holdKept(t *testing.T, all []kept) {
	t.Helper()
	for i, k := range all {
		if !same(k.now, k.then) {
			t.Fatalf("the pool %d of %d: %v\nbecame %v", i, len(all), k.then, k.now)
		}
	}
}

// TestWalks does any calls in any order, with many Puts and with few.
func TestWalks(t *testing.T) {
	for i, s := range shapes {
		r := rand.New(rand.NewPCG(uint64(i), 13))
		w := begin(s)
		done, refused := map[string]int{}, map[string]int{}
		var returned []kept
		for turn := range 4000 {
			m := moves(nil)[r.IntN(4)]
			if zone := s.first - 1 + r.IntN(len(s.all())+2); r.IntN(8) < 1+turn/500%7 {
				m = move{put(zone), zone}
			}
			if w.step(t, m.call, m.zone) {
				done[m.name]++
			} else {
				refused[m.name]++
			}
			returned = append(returned, kept{w.p, copied(w.p)})
		}
		holdKept(t, returned)
		// Each call of the lanes and each Put; those of the two numbers beside the data zones are never done.
		if n := len(lanes) + len(s.all()); len(done) != n || len(refused) != n+2 {
			t.Errorf("%+v: done were %v, refused were %v", s, done, refused)
		}
	}
}

// TestManyFromOne makes many pools of one, and of each of these: none changes another one.
func TestManyFromOne(t *testing.T) {
	for _, s := range shapes {
		roomy := append(make([]int, 0, 40), s.first+1, s.first+3, s.first+4)
		for _, p := range []api.Pool{of(-1, -1), of(-1, -1, roomy...), of(s.last, -1, s.first, s.first+2), of(-1, -1, s.all()...)} {
			level := []kept{{p, copied(p)}}
			all := slices.Clone(level)
			for range 3 {
				var next []kept
				for _, from := range level {
					for _, x := range calls(s.first, s.first+2, s.last-1, s.last) {
						if p, ok := x.do(from.now, s.c); ok {
							next = append(next, kept{p, copied(p)})
						}
					}
				}
				all = append(all, next...)
				level = next
			}
			holdKept(t, all)
		}
	}
}

// TestHostLeavesReserve has the host take, fill and leave zones as long as it gets any: the last Reserve ones are left, and the
// cleaner gets just these.
func TestHostLeavesReserve(t *testing.T) {
	for _, s := range shapes {
		for _, free := range s.samples() {
			w := begin(s)
			for _, zone := range free {
				w.step(t, put(zone), zone)
			}
			var taken []int
			for w.step(t, host, -1) {
				taken = append(taken, w.p.Host)
				w.step(t, leaveHost, -1)
			}
			left := w.p.Free
			if !slices.Equal(slices.Concat(taken, left), free) || len(left) != min(len(free), 2) {
				t.Errorf("%+v: the host took %v of %v and left %v", s, taken, free, left)
			}
			var cleaned []int
			for w.step(t, cleaner, -1) {
				cleaned = append(cleaned, w.p.Cleaner)
				w.step(t, leaveCleaner, -1)
			}
			if !slices.Equal(cleaned, left) || len(w.p.Free) > 0 {
				t.Errorf("%+v: the cleaner took %v of %v", s, cleaned, left)
			}
		}
	}
}
