package checkpoint_test

import (
	"slices"
	"testing"

	"zoneappend/api"
	"zoneappend/checkpoint"
)

// rows gives visit all rows of up to n of some values.
func rows[E any](values []E, n int, visit func(row []E)) {
	var grow func(row []E)
	grow = func(row []E) {
		visit(row)
		if len(row) < n {
			for _, v := range values {
				grow(append(slices.Clip(row), v))
			}
		}
	}
	grow(nil)
}

// parts are heads and feet of checkpoints with up to two entries, some entries, and a record of another kind.
func parts() []api.Record {
	var l []api.Record
	for _, blocks := range [][]int{nil, {0}, {0, 1}} {
		records := expectEncode(base(entries(blocks...)))
		l = append(l, records[0], records[len(records)-1])
	}
	for _, x := range expectEncode(base(entries(0, 1, 4)))[1:4] {
		l = append(l, x)
	}
	return append(l, api.Record{Kind: api.KindTrim, Block: 1, Version: 5})
}

// TestAllSmallLists has all lists of up to four of some records, with the sums that they have and with the right ones.
func TestAllSmallLists(t *testing.T) {
	found := 0
	rows(parts(), 4, func(l []api.Record) {
		for _, l := range [][]api.Record{l, resealed(l)} {
			want, err := expectDecode(l)
			if b, e := checkpoint.Decode(l); e != err || !same(b, want) {
				t.Fatalf("Decode of %+v\n= %+v, %d\nwant %+v, %d", l, b, e, want, err)
			}
			if err == api.OK {
				found++
			}
		}
	})
	// None, one of three entries, or two of them that ascend; with the right sum ahead of the foot.
	if found < 1+3+3 {
		t.Errorf("only %d checkpoints", found)
	}
}

// TestAllSmallCheckpoints has all rows of up to three of some entries.
func TestAllSmallCheckpoints(t *testing.T) {
	values := []api.Entry{{}, entry(0, 1), entry(1, 9), entry(1, 8), entry(127, 10), entry(128, 3), entry(3, 0), {Block: 2, Kind: api.KindTrim, Version: 4}}
	rows(values, 3, func(l []api.Entry) {
		for _, b := range []api.Base{
			{Sequence: 4, Next: 10, Cut: 9, Entries: l},
			{Sequence: 4, Next: 11, Cut: 11, Entries: l},
			{Sequence: 4, Next: 9, Cut: 1, Entries: l},
			{Sequence: 0, Next: 11, Cut: 9, Entries: l},
		} {
			holdCheck(t, b, expectCheck(b))
		}
	})
}

// TestAllSmallSlots has all rows of up to five of some sectors, divided in all ways into two zones.
func TestAllSmallSlots(t *testing.T) {
	a, b := written(numbered(5, nil)), written(numbered(6, entries(2)))
	other := written(numbered(5, entries(2)))
	reads := map[int]int{}
	rows([]string{a[0], a[1], b[0], b[1], b[2], junk}, 5, func(l []string) {
		for n := range len(l) + 1 {
			d := device(config(), l[:n], l[n:], nil, other)
			want, err := expectRead(config(), d, 0)
			if b, e := checkpoint.Read(config(), d, 0); e != err || !same(b, want) {
				t.Fatalf("Read of %q\n= %+v, %d\nwant %+v, %d", l, b, e, want, err)
			}
			slot := 1
			if err == api.OK {
				slot = 0
			} else {
				want = numbered(5, entries(2))
			}
			if b, at := checkpoint.Newest(config(), d); at != slot || !same(b, want) {
				t.Fatalf("Newest of %q\n= %+v, %d\nwant %+v, %d", l, b, at, want, slot)
			}
			reads[want.Sequence*2+slot]++
		}
	})
	if len(reads) != 3 {
		t.Errorf("%v", reads)
	}
}

// TestResultsDependOnArgumentsAlone has the same calls again behind many others.
func TestResultsDependOnArgumentsAlone(t *testing.T) {
	b := base(entries(0, 3))
	records := expectEncode(b)
	d := filled(config(), written(b), written(numbered(5, nil)))
	for i := range 200 {
		other := numbered(i, firsts(i%131))
		l, _ := checkpoint.Encode(other)
		checkpoint.Decode(l)
		checkpoint.Decode(records[:i%5])
		checkpoint.Read(config(), device(config(), written(numbered(i, nil))[:i%3]), i%4-1)
		checkpoint.Newest(config(), filled(config(), nil, written(numbered(i+1, firsts(i%5)))))
		holdCheck(t, b, api.OK)
		holdRead(t, config(), d, 0, b, api.OK)
		holdNewest(t, config(), d, numbered(5, nil), 1)
	}
}

// TestResultsAreNew writes into what was returned, as nobody should: what was given does not change, and neither does what is returned next.
func TestResultsAreNew(t *testing.T) {
	for n := range 5 {
		b := base(firsts(n))
		d := filled(config(), written(b), nil)
		for range 3 {
			l, _ := checkpoint.Encode(b)
			decoded, _ := checkpoint.Decode(l)
			read, _ := checkpoint.Read(config(), d, 0)
			newest, _ := checkpoint.Newest(config(), d)
			for _, got := range []api.Base{decoded, read, newest} {
				if !same(got, base(firsts(n))) {
					t.Fatalf("%+v", got)
				}
				for i := range got.Entries {
					got.Entries[i] = entry(77, 7)
				}
				_ = append(got.Entries, entry(77, 7))
			}
			if !slices.Equal(l, expectEncode(base(firsts(n)))) || !same(b, base(firsts(n))) {
				t.Fatalf("%+v of %+v", l, b)
			}
			for i := range l {
				l[i] = api.Record{Kind: 77}
			}
			_ = append(l, api.Record{Kind: 77})
		}
		holdCheck(t, b, api.OK)
		holdRead(t, config(), d, 0, b, api.OK)
	}
}

// TestManyFromOne makes many results from the beginnings of one list and of one device: no result disturbs another one.
func TestManyFromOne(t *testing.T) {
	l := firsts(128)
	var lists [][]api.Record
	for n := range 129 {
		k, _ := checkpoint.Encode(base(l[:n]))
		lists = append(lists, k)
	}
	var bases []api.Base
	for _, k := range lists {
		b, _ := checkpoint.Decode(k)
		bases = append(bases, b)
	}
	for n := range 129 {
		if !slices.Equal(lists[n], expectEncode(base(firsts(n)))) || !same(bases[n], base(firsts(n))) {
			t.Fatalf("%d entries: %+v and %+v", n, lists[n], bases[n])
		}
	}
}
