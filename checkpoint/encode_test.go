package checkpoint_test

import (
	"slices"
	"testing"

	"zoneappend/api"
	"zoneappend/checkpoint"
	"zoneappend/record"
	"zoneappend/zns"
)

// TestExample has the chapter's example.
func TestExample(t *testing.T) {
	l, e := checkpoint.Encode(api.Base{Sequence: 1, Next: 1, Cut: 1})
	if len(l) != 2 || e != api.OK {
		t.Errorf("%+v, %d", l, e)
	}
}

// TestReadme has what README.md does with checkpoints.
func TestReadme(t *testing.T) {
	c := api.Config{Zones: 12, Size: 8, Blocks: 6, Queues: 1, Depth: 1, Shards: 1}
	b := api.Base{Sequence: 4, Next: 10, Cut: 9, Entries: []api.Entry{
		{Block: 3, Kind: api.KindData, Version: 5, Place: api.Place{Zone: 2, Offset: 7}},
	}}
	if e := checkpoint.Check(b); e != api.OK {
		t.Error(e)
	}
	l, e := checkpoint.Encode(b)
	if len(l) != 3 || e != api.OK {
		t.Errorf("%+v, %d", l, e)
	}
	if again, e := checkpoint.Decode(l); !same(again, b) || e != api.OK {
		t.Errorf("%+v, %d", again, e)
	}
	if _, e := checkpoint.Decode(l[1:]); e != api.ErrForm {
		t.Error(e)
	}
	d, _ := zns.New(12, 8, 3, 3)
	for _, r := range l {
		s, _ := record.Encode(r)
		d, _, _ = zns.Append(d, 1, s)
	}
	refuseRead(t, c, d, 0, api.ErrForm)
	holdRead(t, c, d, 1, b, api.OK)
	holdNewest(t, c, d, b, 1)
}

// TestEncodeKnownRecords has checkpoints with records that are written out.
func TestEncodeKnownRecords(t *testing.T) {
	for _, c := range []struct {
		b    api.Base
		want []api.Record
	}{
		{
			api.Base{Sequence: 1, Next: 1, Cut: 1},
			[]api.Record{
				{Kind: api.KindHead, Block: 0, Version: 1, Payload: "\x01\x00\x00\x00\x00\x00\x01\x00\x00\x00\x00\x00"},
				{Kind: api.KindFoot, Block: 0, Version: 1},
			},
		},
		{
			api.Base{Sequence: 258, Next: 0x0102030405, Cut: 0x060708, Entries: []api.Entry{
				{Block: 100, Kind: api.KindData, Version: 0x01020304, Move: 9, Place: api.Place{Zone: 31, Offset: 63}},
			}},
			[]api.Record{
				{Kind: api.KindHead, Block: 1, Version: 258, Payload: "\x05\x04\x03\x02\x01\x00\x08\x07\x06\x00\x00\x00"},
				{Kind: api.KindEntry, Block: 100, Version: 0x01020304, Move: 9, Payload: "\x1f\x00\x3f\x00"},
				{Kind: api.KindFoot, Block: 1, Version: 258},
			},
		},
		{
			api.Base{Sequence: 1<<40 - 1, Next: 1 << 40, Cut: 1 << 40, Entries: []api.Entry{
				{Block: 0, Kind: api.KindData, Version: 1},
				{Block: 1, Kind: api.KindData, Version: 1<<40 - 1, Move: 255, Place: api.Place{Zone: 2, Offset: 3}},
				{Block: 127, Kind: api.KindData, Version: 7, Move: 1, Place: api.Place{Zone: 3, Offset: 2}},
			}},
			[]api.Record{
				{Kind: api.KindHead, Block: 3, Version: 1<<40 - 1, Payload: "\x00\x00\x00\x00\x00\x01\x00\x00\x00\x00\x00\x01"},
				{Kind: api.KindEntry, Block: 0, Version: 1, Payload: "\x00\x00\x00\x00"},
				{Kind: api.KindEntry, Block: 1, Version: 1<<40 - 1, Move: 255, Payload: "\x02\x00\x03\x00"},
				{Kind: api.KindEntry, Block: 127, Version: 7, Move: 1, Payload: "\x03\x00\x02\x00"},
				{Kind: api.KindFoot, Block: 3, Version: 1<<40 - 1},
			},
		},
	} {
		want := resealed(c.want)
		if l, e := checkpoint.Encode(c.b); !slices.Equal(l, want) || e != api.OK {
			t.Errorf("%+v, %d, want %+v", l, e, want)
		}
		holdCheck(t, c.b, api.OK)
	}
}

// TestEncodeKnownSum has the sum of a checkpoint without entries, and of one with an entry, byte by byte.
func TestEncodeKnownSum(t *testing.T) {
	for _, c := range []struct {
		b    api.Base
		want string
	}{
		{api.Base{Sequence: 1, Next: 1, Cut: 1}, "\x7b\xea\xdd\xce"},
		{base([]api.Entry{{Block: 3, Kind: api.KindData, Version: 5, Move: 1, Place: api.Place{Zone: 2, Offset: 7}}}), "\x2e\xd1\x55\x01"},
	} {
		l, _ := checkpoint.Encode(c.b)
		if got := l[len(l)-1].Payload; got != c.want {
			t.Errorf("%q, want %q", got, c.want)
		}
	}
}

// TestRecordsHaveSectors has the records of checkpoints with great and small numbers: each has the sector that the standard library makes.
func TestRecordsHaveSectors(t *testing.T) {
	great := api.Base{Sequence: 1<<40 - 1, Next: 1 << 40, Cut: 1 << 40}
	for i := range 128 {
		great.Entries = append(great.Entries, api.Entry{Block: i, Kind: 1, Version: 1<<40 - 1 - i, Move: 255 - i, Place: api.Place{Zone: 31 - i%32, Offset: 63 - i%64}})
	}
	for _, b := range []api.Base{{Sequence: 1, Next: 1, Cut: 1}, base(firsts(1)), base(firsts(128)), great} {
		l, _ := checkpoint.Encode(b)
		for i, r := range l {
			if s, e := record.Encode(r); s != sectorOf(r) || e != api.OK {
				t.Errorf("%d of %+v: %q, %d", i, b, s, e)
			}
		}
		if len(l) != len(b.Entries)+2 {
			t.Errorf("%d records of %d entries", len(l), len(b.Entries))
		}
	}
}

// TestDifferentCheckpointsHaveDifferentRecords changes each number of a checkpoint, one at a time.
func TestDifferentCheckpointsHaveDifferentRecords(t *testing.T) {
	var all []api.Base
	for _, l := range [][]api.Entry{nil, entries(5), entries(5, 6), entries(5, 9), entries(6)} {
		b := base(l)
		all = append(all, b)
		for _, change := range []func(b *api.Base){
			func(b *api.Base) { b.Sequence++ },
			func(b *api.Base) { b.Next++ },
			func(b *api.Base) { b.Cut++ },
		} {
			c := copied(b)
			change(&c)
			all = append(all, c)
		}
		for i := range l {
			for _, f := range fields[2:] {
				c := copied(b)
				x := c.Entries[i]
				f.set(&c.Entries[i], f.least)
				if c.Entries[i] == x {
					f.set(&c.Entries[i], f.least+1)
				}
				all = append(all, c)
			}
		}
	}
	for i, a := range all {
		holdCheck(t, a, api.OK)
		for _, b := range all[:i] {
			k, _ := checkpoint.Encode(a)
			l, _ := checkpoint.Encode(b)
			if slices.Equal(k, l) {
				t.Errorf("%+v and %+v have the same records", a, b)
			}
		}
	}
}
