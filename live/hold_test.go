package live_test

import (
	"math"
	"slices"
	"testing"

	"zoneappend/api"
	"zoneappend/live"
)

// most is the greatest number that a counter may be.
const most = api.MaxVersion

// none is the zero entry.
var none api.Entry

// above and below are numbers far from every limit: no zones, no numbers of zones, and nothing that a counter may be.
var (
	above = []int{1<<40 + 2, 1 << 41, 1 << 62, math.MaxInt - 1, math.MaxInt}
	below = []int{-2, -32, -33, -255, -256, -1 << 32, 1 - 1<<32, -1 << 40, -1 << 62, math.MinInt + 1, math.MinInt}
)

// sizes are numbers of zones: the least, the greatest, and some between them.
func sizes() []int { return []int{1, 2, 3, 7, api.MaxZones - 1, api.MaxZones} }

// ends are the indices of the first, a middle and the last element of a list of n.
func ends(n int) []int { return slices.Compact([]int{0, n / 2, n - 1}) }

// strangers are numbers that are no zone of counters with n zones. Some are one in their lowest bits.
func strangers(n int) []int {
	return slices.Concat([]int{-1, -n, n, n + 1, 2 * n, 64, 256, 1 << 32, 1<<32 + 1, most}, above, below)
}

// wide is counters with n zones, of which no two numbers are equal.
func wide(n int) api.Counts {
	var c api.Counts
	for i := range n {
		c.Live = append(c.Live, 100+7*i)
		c.Pending = append(c.Pending, 9000-3*i)
	}
	return c
}

// with is a list with another number at an index.
func with(l []int, i, n int) []int {
	l = slices.Clone(l)
	l[i] = n
	return l
}

// withLive is counters with another Live of a zone.
func withLive(c api.Counts, zone, n int) api.Counts {
	return api.Counts{Live: with(c.Live, zone, n), Pending: c.Pending}
}

// withPending is counters with another Pending of a zone.
func withPending(c api.Counts, zone, n int) api.Counts {
	return api.Counts{Live: c.Live, Pending: with(c.Pending, zone, n)}
}

// copied is counters of their own with the same numbers.
func copied(c api.Counts) api.Counts {
	return api.Counts{Live: slices.Clone(c.Live), Pending: slices.Clone(c.Pending)}
}

// same tells whether two counters have the same numbers.
func same(a, b api.Counts) bool {
	return slices.Equal(a.Live, b.Live) && slices.Equal(a.Pending, b.Pending)
}

// in is an entry in a zone.
func in(zone int) api.Entry {
	return api.Entry{Block: 5, Kind: api.KindData, Version: 9, Move: 1, Place: api.Place{Zone: zone, Offset: 2}}
}

// others are entries in the zone of an entry, each of which differs from it in one thing, and one that differs in all.
func others(e api.Entry) []api.Entry {
	var l []api.Entry
	for _, change := range []func(e *api.Entry){
		func(e *api.Entry) { e.Block++ },
		func(e *api.Entry) { e.Kind = api.KindTrim },
		func(e *api.Entry) { e.Version = math.MinInt },
		func(e *api.Entry) { e.Move = math.MaxInt },
		func(e *api.Entry) { e.Place.Offset = -1 },
		func(e *api.Entry) { *e = api.Entry{Place: api.Place{Zone: e.Place.Zone}} },
	} {
		other := e
		change(&other)
		l = append(l, other)
	}
	return l
}

// roomy is a copy of a list with others before and behind its own elements, in memory that an append would write to.
func roomy[E any](l []E, other E) (list, whole []E) {
	whole = slices.Concat([]E{other}, l, []E{other, other, other})
	return whole[1 : 1+len(l)], whole
}

// holdStay expects that counters, and all that is before and behind them, are behind a call as they were before.
func holdStay(t *testing.T, c api.Counts, call func(c api.Counts)) {
	t.Helper()
	l, live := roomy(c.Live, 77)
	p, pending := roomy(c.Pending, 88)
	given := api.Counts{Live: l, Pending: p}
	before := copied(api.Counts{Live: live, Pending: pending})
	call(given)
	if now := (api.Counts{Live: live, Pending: pending}); !same(now, before) || !same(given, c) {
		t.Fatalf("%v\nbecame %v", before, now)
	}
	if c.Live == nil || c.Pending == nil {
		call(c)
	}
}

// holdValid expects what Valid says of counters.
func holdValid(t *testing.T, c api.Counts, want bool) {
	t.Helper()
	holdStay(t, c, func(c api.Counts) {
		t.Helper()
		if live.Valid(c) != want {
			t.Fatalf("Valid of %v: %t, want %t", c, !want, want)
		}
	})
}

// holdBegin expects what Begin returns.
func holdBegin(t *testing.T, c api.Counts, zone int, want api.Counts, done bool) {
	t.Helper()
	holdStay(t, c, func(c api.Counts) {
		t.Helper()
		if got, ok := live.Begin(c, zone); !same(got, want) || ok != done {
			t.Fatalf("Begin of the zone %d of %v\n= %v, %t\nwant %v, %t", zone, c, got, ok, want, done)
		}
	})
}

// holdEnd expects what End returns.
func holdEnd(t *testing.T, c api.Counts, zone int, want api.Counts, done bool) {
	t.Helper()
	holdStay(t, c, func(c api.Counts) {
		t.Helper()
		if got, ok := live.End(c, zone); !same(got, want) || ok != done {
			t.Fatalf("End of the zone %d of %v\n= %v, %t\nwant %v, %t", zone, c, got, ok, want, done)
		}
	})
}

// holdClear expects what Clear says of a zone, and that it returns the counters as they are.
func holdClear(t *testing.T, c api.Counts, zone int, want bool) {
	t.Helper()
	holdStay(t, c, func(c api.Counts) {
		t.Helper()
		if got, ok := live.Clear(c, zone); !same(got, c) || ok != want {
			t.Fatalf("Clear of the zone %d of %v\n= %v, %t, want %t", zone, c, got, ok, want)
		}
	})
}

// change is what Change is asked for.
type change struct {
	old, fresh api.Entry
	had, has   bool
}

// holdOneChange expects what Change returns.
func holdOneChange(t *testing.T, c api.Counts, x change, want api.Counts, done bool) {
	t.Helper()
	holdStay(t, c, func(c api.Counts) {
		t.Helper()
		if got, ok := live.Change(c, x.old, x.fresh, x.had, x.has); !same(got, want) || ok != done {
			t.Fatalf("Change %+v of %v\n= %v, %t\nwant %v, %t", x, c, got, ok, want, done)
		}
	})
}

// holdChange expects what Change returns, whatever the entries have beside their zones.
func holdChange(t *testing.T, c api.Counts, x change, want api.Counts, done bool) {
	t.Helper()
	holdOneChange(t, c, x, want, done)
	for _, old := range others(x.old) {
		holdOneChange(t, c, change{old, x.fresh, x.had, x.has}, want, done)
	}
	for _, fresh := range others(x.fresh) {
		holdOneChange(t, c, change{x.old, fresh, x.had, x.has}, want, done)
	}
	zeros := change{api.Entry{Place: api.Place{Zone: x.old.Place.Zone}}, api.Entry{Place: api.Place{Zone: x.fresh.Place.Zone}}, x.had, x.has}
	holdOneChange(t, c, zeros, want, done)
}

// holdOf expects what Of returns, and that the entries, and all that is before and behind them, stay.
func holdOf(t *testing.T, zones int, l []api.Entry, want api.Counts, done bool) {
	t.Helper()
	given, whole := roomy(l, in(1))
	before := slices.Clone(whole)
	if got, ok := live.Of(zones, given); !same(got, want) || ok != done {
		t.Fatalf("Of of %d zones and %v\n= %v, %t\nwant %v, %t", zones, l, got, ok, want, done)
	}
	if !slices.Equal(whole, before) {
		t.Fatalf("%v\nbecame %v", before, whole)
	}
}

// refuseZone expects that no zone of counters has this number.
func refuseZone(t *testing.T, c api.Counts, zone int) {
	t.Helper()
	holdBegin(t, c, zone, c, false)
	holdEnd(t, c, zone, c, false)
	holdClear(t, c, zone, false)
}

// refuse expects that counters are not valid, and that nothing comes of them.
func refuse(t *testing.T, c api.Counts) {
	t.Helper()
	holdValid(t, c, false)
	n := max(len(c.Live), len(c.Pending))
	zones := []int{-1, 0, 1, n / 2, n - 2, n - 1, n, math.MaxInt, math.MinInt}
	for _, zone := range zones {
		refuseZone(t, c, zone)
		for _, fresh := range []int{zone, 0, n - 1, n} {
			for _, used := range ways() {
				holdOneChange(t, c, change{in(zone), in(fresh), used[0], used[1]}, c, false)
				holdOneChange(t, c, change{in(zone), none, used[0], used[1]}, c, false)
				holdOneChange(t, c, change{none, in(fresh), used[0], used[1]}, c, false)
			}
		}
	}
}

// ways are the four ways in which the entries of a change can be used.
func ways() [][2]bool { return [][2]bool{{false, false}, {false, true}, {true, false}, {true, true}} }
