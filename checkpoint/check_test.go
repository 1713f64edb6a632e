package checkpoint_test

import (
	"fmt"
	"math"
	"slices"
	"testing"

	"zoneappend/api"
)

// field is a number of an entry, with its least and its greatest value in a checkpoint with the Next 1000.
type field struct {
	name            string
	least, greatest int
	set             func(x *api.Entry, n int)
	err             api.Errno
}

var fields = []field{
	{"Kind", 1, 1, func(x *api.Entry, n int) { x.Kind = n }, api.ErrForm},
	{"Block", 0, 127, func(x *api.Entry, n int) { x.Block = n }, api.ErrRange},
	{"Version", 1, 999, func(x *api.Entry, n int) { x.Version = n }, api.ErrRange},
	{"Move", 0, 255, func(x *api.Entry, n int) { x.Move = n }, api.ErrRange},
	{"Zone", 0, 31, func(x *api.Entry, n int) { x.Place.Zone = n }, api.ErrRange},
	{"Offset", 0, 63, func(x *api.Entry, n int) { x.Place.Offset = n }, api.ErrRange},
}

// TestCheckOfNumbers has Sequence, Next and Cut at their least and greatest values, within, just beyond and far beyond.
func TestCheckOfNumbers(t *testing.T) {
	const most = 1 << 40
	for _, c := range []struct {
		sequence, next, cut int
		want                api.Errno
	}{
		{4, 10, 9, api.OK},
		{1, 1, 1, api.OK},
		{most - 1, most, most, api.OK},
		{most - 1, 1, 1, api.OK},
		{1, most, 1, api.OK},
		{0, 10, 9, api.ErrRange},
		{2, 10, 9, api.OK},
		{1 << 32, 10, 9, api.OK},
		{most - 2, 10, 9, api.OK},
		{most, 10, 9, api.ErrRange},
		{most + 1, 10, 9, api.ErrRange},
		{4, 0, 0, api.ErrRange},
		{4, 0, 1, api.ErrRange},
		{4, -1, -1, api.ErrRange},
		{4, 2, 1, api.OK},
		{4, 2, 2, api.OK},
		{4, 1 << 32, 1<<32 - 1, api.OK},
		{4, most - 1, 1, api.OK},
		{4, most + 1, 1, api.ErrRange},
		{4, most + 1, most + 1, api.ErrRange},
		{4, 10, 0, api.ErrRange},
		{4, 10, -1, api.ErrRange},
		{4, 10, 1, api.OK},
		{4, 10, 2, api.OK},
		{4, 10, 10, api.OK},
		{4, 10, 11, api.ErrRange},
		{4, 1, 2, api.ErrRange},
		{4, most, most - 1, api.OK},
		{4, most, most + 1, api.ErrRange},
		{4, most - 1, most, api.ErrRange},
		{0, 0, 0, api.ErrRange},
	} {
		holdCheck(t, api.Base{Sequence: c.sequence, Next: c.next, Cut: c.cut}, c.want)
	}
	for _, n := range far {
		holdCheck(t, api.Base{Sequence: n, Next: 10, Cut: 9}, api.ErrRange)
		holdCheck(t, api.Base{Sequence: 4, Next: n, Cut: 1}, api.ErrRange)
		holdCheck(t, api.Base{Sequence: 4, Next: n, Cut: n}, api.ErrRange)
		holdCheck(t, api.Base{Sequence: 4, Next: 10, Cut: n}, api.ErrRange)
		holdCheck(t, api.Base{Sequence: n, Next: n, Cut: n}, api.ErrRange)
	}
}

// TestCheckOfFields has each field of an entry at each place of a list, at its least and greatest value, just beyond and far beyond.
func TestCheckOfFields(t *testing.T) {
	for _, f := range fields {
		for _, c := range []struct {
			blocks []int
			i      int
		}{{[]int{0}, 0}, {[]int{64}, 0}, {[]int{127}, 0}, {[]int{3, 90}, 0}, {[]int{3, 90}, 1}, {[]int{0, 1, 127}, 0}, {[]int{0, 1, 127}, 1}, {[]int{0, 1, 127}, 2}} {
			inside := []int{f.least, f.greatest, (f.least + f.greatest) / 2}
			if f.name == "Block" { // between those beside it
				inside = nil
			}
			for _, n := range inside {
				l := entries(c.blocks...)
				f.set(&l[c.i], n)
				holdCheck(t, base(l), api.OK)
			}
			for _, n := range slices.Concat([]int{f.least - 1, f.greatest + 1}, far) {
				l := entries(c.blocks...)
				f.set(&l[c.i], n)
				holdCheck(t, base(l), f.err)
			}
		}
	}
}

// TestCheckOfEachValue has each value of each field of one entry, and those around.
func TestCheckOfEachValue(t *testing.T) {
	for _, f := range fields {
		for n := -300; n <= 1300; n++ {
			l := entries(20)
			f.set(&l[0], n)
			want := api.OK
			if n < f.least || n > f.greatest {
				want = f.err
			}
			holdCheck(t, base(l), want)
		}
	}
}

// TestCheckOfAllFields has all fields of one entry at the ends of their ranges, or just beyond, in all combinations.
func TestCheckOfAllFields(t *testing.T) {
	counts := map[api.Errno]int{}
	var fill func(x api.Entry, want api.Errno, rest []field)
	fill = func(x api.Entry, want api.Errno, rest []field) {
		if len(rest) == 0 {
			holdCheck(t, base([]api.Entry{x}), want)
			counts[want]++
			return
		}
		f := rest[0]
		for _, n := range []int{f.least, f.greatest} {
			f.set(&x, n)
			fill(x, want, rest[1:])
		}
		if want == api.OK { // the Kind is the first field, and all others have one error
			want = f.err
		}
		for _, n := range []int{f.least - 1, f.greatest + 1} {
			f.set(&x, n)
			fill(x, want, rest[1:])
		}
	}
	fill(api.Entry{}, api.OK, fields)
	if counts[api.OK] != 1<<6 || counts[api.ErrForm] != 1<<11 || counts[api.ErrRange] != 1<<11-1<<6 {
		t.Errorf("%v", counts)
	}
}

// TestCheckOfVersions has versions around various Nexts.
func TestCheckOfVersions(t *testing.T) {
	for _, next := range []int{1, 2, 3, 10, 1 << 32, 1<<40 - 1, 1 << 40} {
		for _, version := range []int{math.MinInt, -1, 0, 1, 2, 9, 10, next - 2, next - 1, next, next + 1, next + 1<<48, math.MaxInt} {
			for _, cut := range []int{1, next} {
				want := api.ErrRange
				if version >= 1 && version < next {
					want = api.OK
				}
				holdCheck(t, api.Base{Sequence: 4, Next: next, Cut: cut, Entries: []api.Entry{entry(5, 1), {Block: 6, Kind: 1, Version: version}}[1:]}, want)
			}
		}
	}
}

// TestCheckOfKinds has each kind of records and of commands, and others, at each place of a list.
func TestCheckOfKinds(t *testing.T) {
	for i := range 3 {
		for _, kind := range slices.Concat([]int{0, 1, 2, 3, 4, 5, 6, 7, 1<<8 + 1, 1<<16 + 1, 1<<32 + 1, 1 - 1<<8, math.MinInt + 1}, far) {
			l := entries(5, 50, 100)
			l[i].Kind = kind
			want := api.ErrForm
			if kind == api.KindData {
				want = api.OK
			}
			holdCheck(t, base(l), want)
		}
	}
}

// TestCheckOfLengths has lists of no entries up to more than MaxBlocks.
func TestCheckOfLengths(t *testing.T) {
	for n := range 129 {
		holdCheck(t, base(firsts(n)), api.OK)
	}
	holdCheck(t, base([]api.Entry{}), api.OK)
	holdCheck(t, base(nil), api.OK)
	for _, n := range []int{129, 130, 255, 256, 257, 384, 1 << 12, 1<<16 + 1} {
		for _, l := range [][]api.Entry{firsts(n), make([]api.Entry, n), slices.Repeat(entries(5), n)} {
			holdCheck(t, base(l), api.ErrLimit)
		}
	}
}

// TestCheckOfOrder has blocks that ascend, that are equal and that descend, at each place of a list.
func TestCheckOfOrder(t *testing.T) {
	for _, c := range []struct {
		blocks []int
		want   api.Errno
	}{
		{[]int{0, 1}, api.OK},
		{[]int{0, 127}, api.OK},
		{[]int{126, 127}, api.OK},
		{[]int{5, 6, 7}, api.OK},
		{[]int{0, 0}, api.ErrOrder},
		{[]int{127, 127}, api.ErrOrder},
		{[]int{1, 0}, api.ErrOrder},
		{[]int{127, 0}, api.ErrOrder},
		{[]int{5, 5, 6}, api.ErrOrder},
		{[]int{5, 6, 6}, api.ErrOrder},
		{[]int{5, 6, 5}, api.ErrOrder},
		{[]int{5, 4, 6}, api.ErrOrder},
		{[]int{5, 9, 6}, api.ErrOrder},
		{[]int{5, 9, 6, 10}, api.ErrOrder},
		{[]int{9, 5, 6, 7}, api.ErrOrder},
		{[]int{5, 6, 7, 0}, api.ErrOrder},
		{[]int{3, 2, 1}, api.ErrOrder},
	} {
		holdCheck(t, base(entries(c.blocks...)), c.want)
	}
	for a := range 128 {
		for b := range 128 {
			want := api.OK
			if b <= a {
				want = api.ErrOrder
			}
			holdCheck(t, base(entries(a, b)), want)
		}
	}
	for i := range 128 { // equal to the one before it
		l := firsts(128)
		if i > 0 {
			l[i].Block--
			holdCheck(t, base(l), api.ErrOrder)
		}
	}
}

// fault is something that is wrong with a checkpoint of three entries. Faults with a lesser rank are told first.
type fault struct {
	name  string
	rank  int
	err   api.Errno
	cause func(b *api.Base)
}

// faults are all reasons for which a checkpoint of the blocks 10, 20 and 30 is not right.
func faults() []fault {
	l := []fault{
		{"Sequence", 0, api.ErrRange, func(b *api.Base) { b.Sequence = 0 }},
		{"a great Sequence", 0, api.ErrRange, func(b *api.Base) { b.Sequence = 1 << 40 }},
		{"Next", 0, api.ErrRange, func(b *api.Base) { b.Next = 0 }},
		{"a great Next", 0, api.ErrRange, func(b *api.Base) { b.Next = 1<<40 + 1 }},
		{"Cut", 0, api.ErrRange, func(b *api.Base) { b.Cut = 0 }},
		{"a great Cut", 0, api.ErrRange, func(b *api.Base) { b.Cut = 1<<41 + 1 }},
		{"too many", 1, api.ErrLimit, func(b *api.Base) { b.Entries = append(b.Entries, make([]api.Entry, 126)...) }},
	}
	for i := range 3 {
		of := func(rank int, name string, err api.Errno, cause func(x *api.Entry)) {
			l = append(l, fault{fmt.Sprint(name, " of ", i), 3*i + rank, err, func(b *api.Base) { cause(&b.Entries[i]) }})
		}
		of(2, "Kind", api.ErrForm, func(x *api.Entry) { x.Kind = api.KindTrim })
		of(3, "Version", api.ErrRange, func(x *api.Entry) { x.Version = 0 })
		of(3, "Move", api.ErrRange, func(x *api.Entry) { x.Move = 256 })
		of(3, "Zone", api.ErrRange, func(x *api.Entry) { x.Place.Zone = 32 })
		of(3, "Offset", api.ErrRange, func(x *api.Entry) { x.Place.Offset = -1 })
		of(3, "Block", api.ErrRange, func(x *api.Entry) { x.Block = -1 })
		of(3, "a great Block", api.ErrRange, func(x *api.Entry) { x.Block = 128 })
		if i > 0 {
			of(4, "order", api.ErrOrder, func(x *api.Entry) {
				if x.Block == 10*i+10 { // and not changed by another fault
					x.Block = 10
				}
			})
		}
	}
	return l
}

// TestCheckOfFaults has each fault alone, and each two and three of them at one time: the first one in the order is told.
func TestCheckOfFaults(t *testing.T) {
	all := faults()
	hold := func(some ...fault) {
		t.Helper()
		b := base(entries(10, 20, 30))
		for _, f := range some {
			f.cause(&b)
		}
		first := slices.MinFunc(some, func(a, b fault) int { return a.rank - b.rank })
		holdCheck(t, b, first.err)
	}
	for i, a := range all {
		hold(a)
		for k, b := range all[:i] {
			hold(a, b)
			hold(b, a)
			for _, c := range all[:k] {
				hold(a, b, c)
			}
		}
	}
	hold(all...)
}

// TestCheckOfTwoEntries has two entries with one error each: all errors of the first one come first.
func TestCheckOfTwoEntries(t *testing.T) {
	for name, c := range map[string]struct {
		change func(l []api.Entry)
		want   api.Errno
	}{
		"order, then Kind":     {func(l []api.Entry) { l[1].Block, l[2].Kind = 10, 2 }, api.ErrOrder},
		"order, then Version":  {func(l []api.Entry) { l[1].Block, l[2].Version = 10, 0 }, api.ErrOrder},
		"Version, then Kind":   {func(l []api.Entry) { l[0].Version, l[1].Kind = 0, 2 }, api.ErrRange},
		"Version, then order":  {func(l []api.Entry) { l[0].Version, l[1].Block = 0, 10 }, api.ErrRange},
		"Kind, then order":     {func(l []api.Entry) { l[1].Kind, l[2].Block = 2, 0 }, api.ErrForm},
		"Kind, then Move":      {func(l []api.Entry) { l[0].Kind, l[2].Move = 2, -1 }, api.ErrForm},
		"Kind and order of 1":  {func(l []api.Entry) { l[1].Kind, l[1].Block = 2, 10 }, api.ErrForm},
		"Move and order of 1":  {func(l []api.Entry) { l[1].Move, l[1].Block = 256, 10 }, api.ErrRange},
		"Kind and Move of 1":   {func(l []api.Entry) { l[1].Kind, l[1].Move = 0, 256 }, api.ErrForm},
		"Block behind a great": {func(l []api.Entry) { l[0].Block = 128 }, api.ErrRange},
		"below the first one":  {func(l []api.Entry) { l[2].Block = 0 }, api.ErrOrder},
	} {
		t.Run(name, func(t *testing.T) {
			l := entries(10, 20, 30)
			c.change(l)
			holdCheck(t, base(l), c.want)
		})
	}
}
