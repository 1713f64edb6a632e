package checkpoint_test

import (
	"math"
	"reflect"
	"slices"
	"strings"
	"testing"

	"zoneappend/api"
	"zoneappend/checkpoint"
)

// far are numbers that are in no range. Some of them are in one in their lowest bits.
var far = []int{
	-1, -2, -5, -128, 5 - 1<<8, 5 - 1<<16, 5 - 1<<32, 5 - 1<<48, 5 - 1<<62, math.MinInt, math.MinInt + 1, math.MinInt + 5,
	1<<40 + 1, 1<<40 + 5, 1<<41 + 5, 1<<47 + 5, 1<<48 + 5, 1<<56 + 5, 1<<62 + 5, math.MaxInt - 1, math.MaxInt,
}

// entry is an entry, which differs from those of other numbers in all that it can.
func entry(block, version int) api.Entry {
	place := api.Place{Zone: (block*5 + 3) % 32, Offset: (block*11 + version) % 64}
	return api.Entry{Block: block, Kind: api.KindData, Version: version, Move: (block*7 + version) % 256, Place: place}
}

// entries are entries of some blocks, with various versions up to 999.
func entries(blocks ...int) []api.Entry {
	var l []api.Entry
	for _, n := range blocks {
		l = append(l, entry(n, (n*389+5)%999+1))
	}
	return l
}

// firsts are entries of the first blocks.
func firsts(n int) []api.Entry {
	var l []api.Entry
	for i := range n {
		l = append(l, entries(i)...)
	}
	return l
}

// base is a checkpoint with some entries.
func base(l []api.Entry) api.Base { return api.Base{Sequence: 4, Next: 1000, Cut: 9, Entries: l} }

// numbered is a checkpoint with a Sequence.
func numbered(sequence int, l []api.Entry) api.Base {
	b := base(l)
	b.Sequence = sequence
	return b
}

// same tells whether two checkpoints are equal.
func same(a, b api.Base) bool {
	return a.Sequence == b.Sequence && a.Next == b.Next && a.Cut == b.Cut && slices.Equal(a.Entries, b.Entries)
}

// copied is a checkpoint with a list of its own.
func copied(b api.Base) api.Base {
	b.Entries = slices.Clone(b.Entries)
	return b
}

// within gives use a list in some places in memory: with room behind its last element, where something of others lies, and without. It
// expects that all that is in the list, before it and behind it stays as it was.
func within[E comparable](t *testing.T, l []E, others E, use func(l []E)) {
	t.Helper()
	n := len(l)
	whole := slices.Concat([]E{others}, l, []E{others, others})
	before := slices.Clone(whole)
	for _, given := range [][]E{whole[1 : 1+n], whole[1 : 1+n : 1+n]} {
		use(given)
		if !slices.Equal(whole, before) {
			t.Fatalf("%+v\nbecame %+v", before, whole)
		}
	}
	if n == 0 {
		use(nil)
		use([]E{})
	}
}

// holdCheck expects what Check returns, and of Encode the same error, or the records, of which Decode returns the checkpoint.
func holdCheck(t *testing.T, b api.Base, want api.Errno) {
	t.Helper()
	var records []api.Record
	if want == api.OK {
		records = expectEncode(b)
	}
	within(t, b.Entries, entry(77, 7), func(l []api.Entry) {
		t.Helper()
		b.Entries = l
		if e := checkpoint.Check(b); e != want {
			t.Fatalf("Check of %+v: %d, want %d", b, e, want)
		}
		if got, e := checkpoint.Encode(b); e != want || !slices.Equal(got, records) {
			t.Fatalf("Encode of %+v\n= %+v, %d\nwant %+v, %d", b, got, e, records, want)
		}
	})
	if want == api.OK {
		holdDecode(t, records, b)
	}
}

// holdDecode expects of Decode a checkpoint.
func holdDecode(t *testing.T, l []api.Record, want api.Base) {
	t.Helper()
	decode(t, l, want, api.OK)
}

// refuse expects of Decode an error, and no checkpoint beside it.
func refuse(t *testing.T, l []api.Record) {
	t.Helper()
	decode(t, l, api.Base{}, api.ErrForm)
}

// decode expects what Decode returns.
func decode(t *testing.T, l []api.Record, want api.Base, err api.Errno) {
	t.Helper()
	within(t, l, api.Record{Kind: api.KindFoot, Payload: "others"}, func(l []api.Record) {
		t.Helper()
		if b, e := checkpoint.Decode(l); e != err || !same(b, want) {
			t.Fatalf("Decode of %+v\n= %+v, %d\nwant %+v, %d", l, b, e, want, err)
		}
	})
}

// resealed are records of which the last one has the sum of the others.
func resealed(l []api.Record) []api.Record {
	l = slices.Clone(l)
	if n := len(l) - 1; n >= 0 {
		l[n].Payload = sumOf(l[:n])
	}
	return l
}

// config is a configuration whose slots have two zones of three sectors: the zones 0 and 1, and the zones 2 and 3.
func config() api.Config {
	return api.Config{Zones: 12, Size: 3, Blocks: 4, Queues: 2, Depth: 3, Shards: 5}
}

// junk is a sector that holds no record.
var junk = strings.Repeat("x", 40)

// sectors are the sectors of records.
func sectors(l []api.Record) []string {
	var all []string
	for _, r := range l {
		all = append(all, sectorOf(r))
	}
	return all
}

// written are the sectors of a checkpoint.
func written(b api.Base) []string { return sectors(expectEncode(b)) }

// device is a device with all zones of a configuration, of which the first ones have sectors.
func device(c api.Config, zones ...[]string) api.Device {
	d := api.Device{Size: c.Size, MaxOpen: 3, MaxActive: 3, Zones: make([]api.Zone, c.Zones)}
	for i, l := range zones {
		state := api.ZoneClosed
		switch len(l) {
		case 0:
			state = api.ZoneEmpty
		case c.Size:
			state = api.ZoneFull
		}
		d.Zones[i] = api.Zone{State: state, Durable: len(l), Sectors: l}
	}
	return d
}

// filled is a device with sectors in its slots, of which each zone is full before the next one begins.
func filled(c api.Config, slots ...[]string) api.Device {
	zones := (c.Blocks + 2 + c.Size - 1) / c.Size
	var lists [][]string
	for _, l := range slots {
		for range zones {
			n := min(len(l), c.Size)
			lists = append(lists, l[:n])
			l = l[n:]
		}
		if len(l) > 0 {
			panic("sectors that a slot has no room for")
		}
	}
	return device(c, lists...)
}

// given gives use a device in memory where something of others lies behind each list, and expects that all of it stays as it was.
func given(t *testing.T, d api.Device, use func(d api.Device)) {
	t.Helper()
	others := api.Zone{State: api.ZoneFull, Durable: 2, Sectors: written(numbered(77, nil))}
	zones := append(slices.Clone(d.Zones), others)
	before := slices.Clone(zones)
	var lists, listsBefore [][]string
	for i, z := range zones {
		lists = append(lists, slices.Concat(z.Sectors, others.Sectors))
		listsBefore = append(listsBefore, slices.Clone(lists[i]))
		zones[i].Sectors = lists[i][:len(z.Sectors)]
		before[i].Sectors = listsBefore[i][:len(z.Sectors)]
	}
	d.Zones = zones[:len(d.Zones)]
	use(d)
	if !reflect.DeepEqual(zones, before) || !reflect.DeepEqual(lists, listsBefore) {
		t.Fatalf("%+v\nbecame %+v", before, zones)
	}
}

// holdRead expects what Read returns.
func holdRead(t *testing.T, c api.Config, d api.Device, slot int, want api.Base, err api.Errno) {
	t.Helper()
	given(t, d, func(d api.Device) {
		t.Helper()
		if b, e := checkpoint.Read(c, d, slot); e != err || !same(b, want) {
			t.Fatalf("Read of slot %d of %+v with %d zones, %q\n= %+v, %d\nwant %+v, %d", slot, c, len(d.Zones), sectorsIn(d.Zones), b, e, want, err)
		}
	})
}

// refuseRead expects of Read an error, and no checkpoint beside it.
func refuseRead(t *testing.T, c api.Config, d api.Device, slot int, err api.Errno) {
	t.Helper()
	holdRead(t, c, d, slot, api.Base{}, err)
}

// holdNewest expects what Newest returns.
func holdNewest(t *testing.T, c api.Config, d api.Device, want api.Base, slot int) {
	t.Helper()
	given(t, d, func(d api.Device) {
		t.Helper()
		if b, at := checkpoint.Newest(c, d); at != slot || !same(b, want) {
			t.Fatalf("Newest of %+v with %d zones, %q\n= %+v, %d\nwant %+v, %d", c, len(d.Zones), sectorsIn(d.Zones), b, at, want, slot)
		}
	})
}

// holdSlots expects of Read and Newest what the second reading of the chapter says.
func holdSlots(t *testing.T, c api.Config, d api.Device) {
	t.Helper()
	for slot := -1; slot <= 2; slot++ {
		want, err := expectRead(c, d, slot)
		holdRead(t, c, d, slot, want, err)
	}
	want, at := expectNewest(c, d)
	holdNewest(t, c, d, want, at)
}
