package checkpoint_test

import (
	"math"
	"slices"
	"strings"
	"testing"

	"zoneappend/api"
)

// three are the records of a checkpoint with three entries, and two those of one without any.
func three() []api.Record { return expectEncode(base(entries(10, 20, 30))) }
func two() []api.Record   { return expectEncode(base(nil)) }

// TestDecodeOfEncode has checkpoints with no, one and many entries.
func TestDecodeOfEncode(t *testing.T) {
	for n := range 129 {
		b := base(firsts(n))
		holdDecode(t, expectEncode(b), b)
		for i, x := range firsts(n) { // the last blocks
			x.Block = 128 - n + i
			b.Entries[i] = x
		}
		holdDecode(t, expectEncode(b), b)
	}
}

// TestDecodeOfLists has lists that are none of a checkpoint, with the sum that they had, and with the right one of what is ahead of the end.
func TestDecodeOfLists(t *testing.T) {
	l := three()
	head, foot := l[0], l[4]
	for name, list := range map[string][]api.Record{
		"nothing":                  {},
		"a head":                   {head},
		"a foot":                   {foot},
		"an entry":                 {l[1]},
		"the zero record":          {{}},
		"two zero records":         {{}, {}},
		"two heads":                {head, head},
		"two feet":                 {foot, foot},
		"a foot ahead":             {foot, head},
		"head and foot":            {head, foot},
		"the entries":              l[1:4],
		"no head":                  l[1:],
		"no foot":                  l[:4],
		"a foot behind":            append(slices.Clone(l), foot),
		"a head behind":            append(slices.Clone(l), head),
		"an entry behind":          append(slices.Clone(l), l[3]),
		"the zero record behind":   append(slices.Clone(l), api.Record{}),
		"the list behind":          slices.Concat(l, l),
		"a list ahead":             slices.Concat(two(), l),
		"a list behind":            slices.Concat(l, two()),
		"a head ahead":             slices.Concat(l[:1], l),
		"backwards":                {l[4], l[3], l[2], l[1], l[0]},
		"a foot in place of head":  {foot, l[1], l[2], l[3], foot},
		"a head in place of foot":  {head, l[1], l[2], l[3], head},
		"an entry in place of one": {l[1], l[1], l[2], l[3], foot},
		"a foot for an entry":      {head, l[1], foot, l[3], foot},
		"a head for an entry":      {head, head, l[2], l[3], foot},
		"a data record":            {head, l[1], {Kind: api.KindData, Block: 20, Version: 5, Payload: "0123456789abcdef"}, l[3], foot},
		"a trim":                   {head, l[1], {Kind: api.KindTrim, Block: 20, Version: 5}, l[3], foot},
		"a summary":                {head, l[1], {Kind: api.KindSummary, Block: 20, Version: 5, Payload: l[2].Payload}, l[3], foot},
	} {
		t.Run(name, func(t *testing.T) {
			refuse(t, list)
			refuse(t, resealed(list))
		})
	}
}

// TestDecodeOfManyRecords has lists of more records than any checkpoint has, all of them right but for their number.
func TestDecodeOfManyRecords(t *testing.T) {
	for _, n := range []int{129, 130, 256, 384, 1 << 10} {
		refuse(t, expectEncode(base(firsts(n))))
	}
	refuse(t, slices.Repeat(three(), 1<<10))
	l := expectEncode(base(firsts(128)))
	refuse(t, resealed(slices.Insert(l, 5, l[5])))
	refuse(t, resealed(slices.Insert(l, 129, entryRecord(128))))
}

// entryRecord is the record of an entry with a block.
func entryRecord(block int) api.Record {
	return api.Record{Kind: api.KindEntry, Block: block, Version: 5, Move: 1, Payload: "\x03\x00\x02\x00"}
}

// TestDecodeOfMissingRecords leaves each set of records out, with the sum that was there and with the right one. What is left is no
// checkpoint.
func TestDecodeOfMissingRecords(t *testing.T) {
	for _, l := range [][]api.Record{two(), expectEncode(base(entries(5))), three(), expectEncode(base(firsts(6)))} {
		for set := 1; set < 1<<len(l); set++ {
			var left []api.Record
			for i, r := range l {
				if set>>i&1 == 0 {
					left = append(left, r)
				}
			}
			refuse(t, left)
			refuse(t, resealed(left))
		}
	}
	long := expectEncode(base(firsts(128)))
	for i := range long {
		left := slices.Delete(slices.Clone(long), i, i+1)
		refuse(t, left)
		refuse(t, resealed(left))
	}
}

// TestDecodeOfMovedRecords has each record doubled, moved to each other place, and put in place of each other one.
func TestDecodeOfMovedRecords(t *testing.T) {
	for _, l := range [][]api.Record{two(), expectEncode(base(entries(5))), three(), expectEncode(base(firsts(9)))} {
		for i, r := range l {
			for k := range len(l) + 1 {
				doubled := slices.Insert(slices.Clone(l), k, r)
				refuse(t, doubled)
				refuse(t, resealed(doubled))
			}
			for k := range l {
				if k == i {
					continue
				}
				moved := slices.Insert(slices.Delete(slices.Clone(l), i, i+1), k, r)
				refuse(t, moved)
				refuse(t, resealed(moved))
				over := slices.Clone(l)
				over[k] = r
				refuse(t, over)
				refuse(t, resealed(over))
				over[i] = l[k]
				refuse(t, over)
				refuse(t, resealed(over))
			}
		}
	}
}

// recordFields are the numbers of a record.
var recordFields = []struct {
	name string
	of   func(r *api.Record) *int
}{
	{"Kind", func(r *api.Record) *int { return &r.Kind }},
	{"Block", func(r *api.Record) *int { return &r.Block }},
	{"Version", func(r *api.Record) *int { return &r.Version }},
	{"Move", func(r *api.Record) *int { return &r.Move }},
}

// TestDecodeOfChangedNumbers has each number of each record changed: no list but one with the right sum is one of a checkpoint, and then
// only if it is one of another checkpoint.
func TestDecodeOfChangedNumbers(t *testing.T) {
	values := slices.Concat(far, []int{0, 1, 2, 3, 4, 5, 6, 7, 9, 10, 11, 19, 20, 21, 29, 30, 31, 127, 128, 129, 255, 256, 998, 999, 1000, 1001, 1<<40 - 1, 1 << 40})
	for _, l := range [][]api.Record{two(), three()} {
		for i, r := range l {
			for _, f := range recordFields {
				was := *f.of(&r)
				near := []int{was - 1, was + 1, was + 1<<8, was + 1<<16, was + 1<<32, was + 1<<48, was + math.MinInt, -was, ^was}
				for _, n := range slices.Concat(values, near) {
					changed := slices.Clone(l)
					*f.of(&changed[i]) = n
					holdChanged(t, l, changed)
				}
			}
		}
	}
}

// holdChanged expects of records, in which one was changed, what the second reading of the chapter says, with the right sum and with the
// old one, which is right for no other checkpoint.
func holdChanged(t *testing.T, l, changed []api.Record) {
	t.Helper()
	if !slices.Equal(l, changed) {
		refuse(t, changed)
	}
	changed = resealed(changed)
	want, err := expectDecode(changed)
	decode(t, changed, want, err)
}

// TestDecodeOfChangedPayloads has each byte of each payload changed, and payloads that are shorter and longer.
func TestDecodeOfChangedPayloads(t *testing.T) {
	for _, l := range [][]api.Record{two(), three(), expectEncode(api.Base{Sequence: 3, Next: 1 << 40, Cut: 1 << 39, Entries: []api.Entry{{Kind: 1, Version: 5}}})} {
		for i, r := range l {
			var payloads []string
			for at := range len(r.Payload) {
				for b := range 256 {
					payloads = append(payloads, r.Payload[:at]+string([]byte{byte(b)})+r.Payload[at+1:])
				}
				payloads = append(payloads, r.Payload[:at], r.Payload[at:], r.Payload[at:]+r.Payload[:at], r.Payload[at+1:]+"\x00")
			}
			for _, more := range []string{"\x00", "\x01", "\xff", "\x00\x00", r.Payload, strings.Repeat("\x00", 20-len(r.Payload)), strings.Repeat("\x00", 256)} {
				payloads = append(payloads, r.Payload+more, more+r.Payload)
			}
			for _, payload := range append(payloads, "", "x", strings.Repeat("\x01", 4), strings.Repeat("\x01", 12), strings.Repeat("\x01", 20)) {
				changed := slices.Clone(l)
				changed[i].Payload = payload
				holdChanged(t, l, changed)
			}
		}
	}
}

// TestDecodeOfTrailingZeros has payloads in which a number ends with bytes 0 that are left out, or with more of them: the numbers would be the
// same ones, but the records are not.
func TestDecodeOfTrailingZeros(t *testing.T) {
	l := expectEncode(api.Base{Sequence: 1, Next: 2, Cut: 1, Entries: []api.Entry{{Kind: 1, Version: 1}}})
	for i, r := range l {
		for n := range 21 {
			changed := slices.Clone(l)
			changed[i].Payload = (r.Payload + strings.Repeat("\x00", 20))[:n]
			if n != len(r.Payload) {
				refuse(t, changed)
			}
			if i < 2 && n != len(r.Payload) {
				refuse(t, resealed(changed))
			}
		}
	}
}

// TestDecodeChecks has lists that would be those of a checkpoint, if it was right.
func TestDecodeChecks(t *testing.T) {
	for name, b := range map[string]api.Base{
		"Sequence 0":        {Sequence: 0, Next: 10, Cut: 9},
		"a great Sequence":  {Sequence: 1 << 40, Next: 10, Cut: 9},
		"Next 0":            {Sequence: 4, Next: 0, Cut: 0},
		"a great Next":      {Sequence: 4, Next: 1<<40 + 1, Cut: 9},
		"the greatest Next": {Sequence: 4, Next: 1<<48 - 1, Cut: 9},
		"Cut 0":             {Sequence: 4, Next: 10, Cut: 0},
		"Cut behind Next":   {Sequence: 4, Next: 10, Cut: 11},
		"order":             base(entries(6, 5)),
		"order in the end":  base(entries(4, 5, 6, 0)),
		"a block twice":     base(entries(5, 5)),
		"a block thrice":    base(entries(1, 5, 5, 5)),
		"a great Block":     base(entries(1, 5, 128)),
		"a greater Block":   base(entries(1, 5, 1<<32-1)),
		"a negative Block":  base([]api.Entry{{Block: -1, Kind: 1, Version: 3}}),
		"Version 0":         base([]api.Entry{{Block: 1, Kind: 1, Version: 0}}),
		"Version Next":      base([]api.Entry{{Block: 1, Kind: 1, Version: 1000}}),
		"a great Move":      base([]api.Entry{{Block: 1, Kind: 1, Version: 3, Move: 256}}),
		"a great Zone":      base([]api.Entry{{Block: 1, Kind: 1, Version: 3, Place: api.Place{Zone: 32}}}),
		"a greater Zone":    base([]api.Entry{{Block: 1, Kind: 1, Version: 3, Place: api.Place{Zone: 256}}}),
		"the greatest Zone": base([]api.Entry{{Block: 1, Kind: 1, Version: 3, Place: api.Place{Zone: 1<<16 - 1}}}),
		"a great Offset":    base([]api.Entry{{Block: 1, Kind: 1, Version: 3, Place: api.Place{Offset: 64}}}),
		"a greater Offset":  base([]api.Entry{{Block: 1, Kind: 1, Version: 3, Place: api.Place{Offset: 256}}}),
		"both are great":    base([]api.Entry{{Block: 1, Kind: 1, Version: 3, Place: api.Place{Zone: 1<<16 - 1, Offset: 1<<16 - 1}}}),
	} {
		t.Run(name, func(t *testing.T) { refuse(t, expectEncode(b)) })
	}
}

// TestDecodeOfSums has sums that are near to the right one: of other records, of whole sectors, and with their bytes in another order.
func TestDecodeOfSums(t *testing.T) {
	for _, l := range [][]api.Record{two(), three()} {
		last := len(l) - 1
		sum := l[last].Payload
		reversed := string([]byte{sum[3], sum[2], sum[1], sum[0]})
		for _, wrong := range []string{
			sumOf(nil), sumOf(l), sumOf(l[1:last]), sumOf(l[:last-1]), sumOf(l[1:]), reversed, "\x00\x00\x00\x00", "\xff\xff\xff\xff",
			sectorOf(l[0])[36:], sectorOf(l[last-1])[36:], sectorOf(l[last])[36:], wholeSum(l[:last]), sum + "\x00", sum[:3], "", "\x00" + sum,
		} {
			changed := slices.Clone(l)
			changed[last].Payload = wrong
			if wrong != sum {
				refuse(t, changed)
			} else if last > 1 {
				t.Errorf("%q is the right sum", wrong)
			}
		}
		for bit := range 32 {
			b := []byte(sum)
			b[bit/8] ^= 1 << (bit % 8)
			changed := slices.Clone(l)
			changed[last].Payload = string(b)
			refuse(t, changed)
		}
	}
}

// TestDecodeOfOtherCheckpoints puts records of one checkpoint among those of another one.
func TestDecodeOfOtherCheckpoints(t *testing.T) {
	a := expectEncode(base(entries(10, 20, 30)))
	b := expectEncode(api.Base{Sequence: 5, Next: 1100, Cut: 20, Entries: []api.Entry{entry(11, 1000), entry(21, 1001), entry(31, 1002)}})
	for set := 1; set < 1<<len(a)-1; set++ {
		mixed := slices.Clone(a)
		for i := range a {
			if set>>i&1 == 1 {
				mixed[i] = b[i]
			}
		}
		refuse(t, mixed)
		want, err := expectDecode(resealed(mixed))
		decode(t, resealed(mixed), want, err)
	}
}

// TestDecodeOfOtherBlocks gives each entry each other block, and blocks that no map has: the sum tells it.
func TestDecodeOfOtherBlocks(t *testing.T) {
	for _, l := range [][]api.Record{expectEncode(base(entries(5))), three(), expectEncode(base(firsts(128)))} {
		for i := 1; i < len(l)-1; i += max(1, len(l)/10) {
			was := l[i].Block
			for _, n := range slices.Concat(numbers(140), []int{1 << 8, 1<<8 + was, 1 << 16, 1<<16 + was, 1 << 24, 1<<24 + was, 1<<32 - 1, 1<<31 + was, 1<<32 + was, -1}) {
				if n == was {
					continue
				}
				changed := slices.Clone(l)
				changed[i].Block = n
				refuse(t, changed)
			}
		}
	}
}

// numbers are the first numbers.
func numbers(n int) []int {
	var l []int
	for i := range n {
		l = append(l, i)
	}
	return l
}

// wholeSum is the sum of whole sectors.
func wholeSum(l []api.Record) string {
	return sumOfBytes(strings.Join(sectors(l), ""))
}
