package checkpoint_test

import (
	"fmt"
	"math"
	"slices"
	"strings"
	"testing"

	"zoneappend/api"
	"zoneappend/checkpoint"
	"zoneappend/layout"
	"zoneappend/record"
	"zoneappend/zns"
)

// with has two entries, and its sectors are h, e, f and o. without has none, and its sectors are p and g.
var (
	with    = base(entries(0, 3))
	without = numbered(9, nil)

	h, e, f, o = written(with)[0], written(with)[1], written(with)[2], written(with)[3]
	p, g       = written(without)[0], written(without)[1]
)

// data, trim and foot are sectors of no checkpoint: the foot has no sum.
var (
	data = sectorOf(api.Record{Kind: api.KindData, Block: 1, Version: 5, Payload: "0123456789abcdef"})
	trim = sectorOf(api.Record{Kind: api.KindTrim, Block: 1, Version: 5})
	foot = sectorOf(api.Record{Kind: api.KindFoot, Block: 2, Version: 4})
)

// where are the zones of both slots of config, of which one has these and the other one has what is given for it.
func where(slot int, zones, others [][]string) [][]string {
	if slot == 0 {
		return slices.Concat(zones, others)
	}
	return slices.Concat(others, zones)
}

// holdZones expects what Read returns for either slot, if its zones have these sectors: the other slot has nothing, a checkpoint, or junk
// ahead of one.
func holdZones(t *testing.T, zones [][]string, want api.Base, err api.Errno) {
	t.Helper()
	for slot := range 2 {
		for _, others := range [][][]string{{nil, nil}, {{h, e, f}, {o}}, {{junk}, {p, g}}} {
			d := device(config(), where(slot, zones, others)...)
			holdRead(t, config(), d, slot, want, err)
			if len(others[1]) == 1 {
				holdRead(t, config(), d, 1-slot, with, api.OK)
			}
		}
	}
}

// TestReadOfZones has a slot of two zones that begins with a checkpoint.
func TestReadOfZones(t *testing.T) {
	for name, c := range map[string]struct {
		first, second []string
		want          api.Base
	}{
		"right":                       {[]string{h, e, f}, []string{o}, with},
		"the first zone ends early":   {[]string{h}, []string{e, f, o}, with},
		"it ends within the entries":  {[]string{h, e}, []string{f, o}, with},
		"the second one goes on":      {[]string{h, e, f}, []string{o, junk, junk}, with},
		"it ends in the first zone":   {[]string{p, g}, nil, without},
		"and the second one has some": {[]string{p, g}, []string{h, e, f}, without},
		"it begins in the second one": {nil, []string{p, g}, without},
		"one behind another":          {[]string{p, g, h}, []string{e, f, o}, without},
		"one in each zone":            {[]string{p, g}, written(numbered(10, nil)), without},
		"the later one is older":      {[]string{p, g}, written(numbered(8, nil)), without},
		"a second foot":               {[]string{h, e, f}, []string{o, o}, with},
		"another foot behind":         {[]string{h, e, f}, []string{o, g, foot}, with},
		"a second foot in its zone":   {[]string{p, g, g}, nil, without},
		"junk behind":                 {[]string{h, e, f}, []string{o, junk}, with},
		"junk behind in its zone":     {[]string{p, g, junk}, nil, without},
		"junk in the later zone":      {[]string{p, g}, []string{junk, junk, junk}, without},
		"other sizes behind":          {[]string{p, g, ""}, []string{"x", junk + junk, o[:39]}, without},
		"an entry behind":             {[]string{h, e, f}, []string{o, e}, with},
		"a record behind":             {[]string{h, e, f}, []string{o, data, trim}, with},
	} {
		t.Run(name, func(t *testing.T) { holdZones(t, [][]string{c.first, c.second}, c.want, api.OK) })
	}
}

// TestReadOfOtherZones has a slot of two zones that does not begin with a checkpoint.
func TestReadOfOtherZones(t *testing.T) {
	for name, zones := range map[string][][]string{
		"nothing":                   {nil, nil},
		"no foot":                   {{h, e, f}, nil},
		"no foot, but junk":         {{h, e, f}, {junk}},
		"no foot, a record":         {{h, e, f}, {data}},
		"no foot in a full slot":    {{h, e, f}, {e, f, e}},
		"a head alone":              {{h}, nil},
		"a foot alone":              {{o}, nil},
		"a foot alone, of none":     {{g}, nil},
		"a foot ahead":              {{o, h, e}, {f, o}},
		"another foot ahead":        {{g, h, e}, {f, o}},
		"a foot between":            {{h, e, o}, {f, o}},
		"another foot for it":       {{h, e, f}, {g}},
		"another foot, then it":     {{h, e, f}, {g, o}},
		"a foot with a wrong sum":   {{h, e, f}, {foot, o}},
		"a head ahead":              {{p, h, e}, {f, o}},
		"junk ahead":                {{junk, p, g}, nil},
		"junk in the first zone":    {{junk}, {p, g}},
		"junk between":              {{p, junk, g}, nil},
		"junk ahead of the entries": {{h, junk, e}, {f, o}},
		"junk ahead of the foot":    {{h, e, f}, {junk, o}},
		"junk at the zone's end":    {{h, e, junk}, {f, o}},
		"junk for an entry":         {{h, junk, f}, {o}},
		"junk for a head":           {{junk, e, f}, {o}},
		"junk alone":                {{junk, junk, junk}, {junk, junk, junk}},
		"an empty sector":           {{"", p, g}, nil},
		"a short sector":            {{p, g[:39], g}, nil},
		"a long sector":             {{p, g + "\x00"}, nil},
		"data ahead":                {{data, p, g}, nil},
		"data between":              {{h, e, data}, {f, o}},
		"a trim between":            {{p, trim, g}, nil},
		"an entry is missing":       {{h, f, o}, nil},
		"the other one is missing":  {{h, e, o}, nil},
		"both are missing":          {{h, o}, nil},
		"the head is missing":       {{e, f, o}, nil},
		"an entry twice":            {{h, e, e}, {f, o}},
		"entries exchanged":         {{h, f, e}, {o}},
		"zones exchanged":           {{o}, {h, e, f}},
	} {
		t.Run(name, func(t *testing.T) { holdZones(t, zones, api.Base{}, api.ErrForm) })
	}
}

// TestReadAcrossSlots has a checkpoint that ends in a zone behind those of the slot, or begins ahead of them.
func TestReadAcrossSlots(t *testing.T) {
	a, b := written(base(entries(0, 3))), written(base(nil))
	for _, zones := range [][][]string{
		{nil, a[:3], a[3:], nil},
		{nil, a[:1], a[1:], nil},
		{a[:2], a[2:3], a[3:], nil},
		{{a[0]}, {a[1]}, {a[2]}, {a[3]}},
		{nil, nil, a[1:], nil},
		{a[:1], a[1:2], a[2:], a[:1]},
		{nil, b[:1], b[1:], nil},
		{nil, nil, nil, nil, b},
		{nil, nil, nil, b[:1], b[1:]},
		{nil, nil, nil, b[1:], b},
	} {
		for slot := range 2 {
			refuseRead(t, config(), device(config(), zones...), slot, api.ErrForm)
		}
		holdNewest(t, config(), device(config(), zones...), api.Base{}, -1)
	}
}

// TestReadOfChangedBits changes each bit of a checkpoint and of what is behind it.
func TestReadOfChangedBits(t *testing.T) {
	b := base(entries(0, 3))
	l := append(written(b), written(numbered(9, nil))...)
	for i, s := range l {
		for bit := range 8 * len(s) {
			changed := slices.Clone(l)
			changed[i] = s[:bit/8] + string([]byte{s[bit/8] ^ 1<<(bit%8)}) + s[bit/8+1:]
			for slot := range 2 {
				d := device(config(), where(slot, [][]string{changed[:3], changed[3:]}, [][]string{l[:3], l[3:]})...)
				if i < 4 {
					refuseRead(t, config(), d, slot, api.ErrForm)
				} else {
					holdRead(t, config(), d, slot, b, api.OK)
				}
			}
		}
	}
}

// TestReadOfMissingSectors leaves each set of sectors of a checkpoint out, with an older checkpoint behind it and without.
func TestReadOfMissingSectors(t *testing.T) {
	c := api.Config{Zones: 20, Size: 5, Blocks: 6, Queues: 1, Depth: 1, Shards: 1} // slots of two zones
	l := written(base(entries(0, 2, 3, 5)))
	for set := 1; set < 1<<len(l)-1; set++ {
		var left []string
		for i, s := range l {
			if set>>i&1 == 0 {
				left = append(left, s)
			}
		}
		for slot := range 2 {
			for _, behind := range [][]string{nil, l[5:], l[4:], l[3:], written(base(nil)), {junk}} {
				slots := make([][]string, 2)
				slots[slot] = slices.Concat(left, behind)
				d := filled(c, slots...)
				want, err := expectRead(c, d, slot)
				if len(behind) == 0 && err != api.ErrForm {
					t.Fatalf("%b is read", set)
				}
				holdRead(t, c, d, slot, want, err)
			}
		}
	}
}

// TestReadOfOtherBlocks gives each entry each other block in a sector of its own: the sum tells it, also where all blocks ascend.
func TestReadOfOtherBlocks(t *testing.T) {
	c := api.Config{Zones: 24, Size: 16, Blocks: 128, Queues: 1, Depth: 1, Shards: 1} // slots of nine zones
	records := expectEncode(base(entries(3, 40, 90)))
	for i := 1; i <= 3; i++ {
		for n := range 128 {
			if n == records[i].Block {
				continue
			}
			changed := slices.Clone(records)
			changed[i].Block = n
			refuseRead(t, c, filled(c, sectors(changed)), 0, api.ErrForm)
			refuseRead(t, c, filled(c, nil, sectors(changed)), 1, api.ErrForm)
		}
	}
	holdRead(t, c, filled(c, sectors(records)), 0, base(entries(3, 40, 90)), api.OK)
}

// TestReadOfBlocks has configurations with few and many blocks: as many entries as Blocks and one more, and an entry of the last block and of
// the one behind it.
func TestReadOfBlocks(t *testing.T) {
	for blocks := 1; blocks <= 128; blocks++ {
		c := api.Config{Zones: 32, Size: 64, Blocks: blocks, Queues: 1, Depth: 1, Shards: 1}
		for _, b := range []struct {
			base api.Base
			fits bool
		}{
			{base(nil), true},
			{base(firsts(1)), true},
			{base(firsts(blocks - 1)), true},
			{base(firsts(blocks)), true},
			{base(entries(blocks - 1)), true},
			{base(entries(min(blocks, 127))), blocks > 127},
			{base(entries(127)), blocks > 127},
			{base(firsts(min(blocks+1, 128))), blocks > 127},
			{base(append(firsts(blocks-1), entries(min(blocks, 127))...)), blocks > 127},
			{base(firsts(128)), blocks > 127},
		} {
			zones := (blocks + 2 + 63) / 64
			l := written(b.base)
			if len(l) > 64*zones {
				continue
			}
			for slot := range 2 {
				slots := make([][]string, 2)
				slots[slot] = l
				if b.fits {
					holdRead(t, c, filled(c, slots...), slot, b.base, api.OK)
				} else {
					refuseRead(t, c, filled(c, slots...), slot, api.ErrForm)
				}
			}
		}
	}
}

// TestSlotsHaveRoom has a checkpoint with an entry for each block, and ones with fewer, in configurations of all sizes, and expects that it
// fits and is read.
func TestSlotsHaveRoom(t *testing.T) {
	count := 0
	for size := api.MinSize; size <= api.MaxSize; size++ {
		for blocks := 1; blocks <= api.MaxBlocks; blocks++ {
			c := api.Config{Zones: 32, Size: size, Blocks: blocks, Queues: 1, Depth: 1, Shards: 1}
			// Slots that are full, that have room for one record, and that have a zone for one record.
			if layout.Check(c) != api.OK || blocks > 2 && (blocks+2)%size > 1 && (blocks+2)%size < size-1 {
				continue
			}
			for _, b := range []api.Base{base(firsts(blocks)), base(entries(blocks - 1))} {
				l, _ := checkpoint.Encode(b)
				if len(l) > size*len(layout.Slots(c, 0)) {
					t.Fatalf("%d records in slots of %+v", len(l), c)
				}
				older := numbered(3, nil)
				d := filled(c, sectors(l), written(older))
				holdRead(t, c, d, 0, b, api.OK)
				holdRead(t, c, d, 1, older, api.OK)
				d = filled(c, written(older), sectors(l))
				holdRead(t, c, d, 1, b, api.OK)
				holdNewest(t, c, d, b, 1)
			}
			count++
		}
	}
	if count < 500 {
		t.Errorf("only %d configurations", count)
	}
}

// TestReadOfAppended has checkpoints that were appended to the zones of a device, the next zone where one is full.
func TestReadOfAppended(t *testing.T) {
	for _, c := range []api.Config{config(), {Zones: 20, Size: 5, Blocks: 13, Queues: 1, Depth: 1, Shards: 1}, {Zones: 12, Size: 8, Blocks: 6, Queues: 1, Depth: 1, Shards: 1}} {
		for slot := range 2 {
			for n := range c.Blocks + 1 {
				d, _ := zns.New(c.Zones, c.Size, 3, 3)
				b := base(firsts(n))
				l, _ := checkpoint.Encode(b)
				zones := layout.Slots(c, slot)
				for i, r := range l {
					refuseRead(t, c, d, slot, api.ErrForm)
					s, _ := record.Encode(r)
					d, _, _ = zns.Append(d, zones[i/c.Size], s)
				}
				holdRead(t, c, d, slot, b, api.OK)
				holdNewest(t, c, d, b, slot)
			}
		}
	}
}

// TestErrorsOfRead has arguments to which one or more errors apply: the first one in the order is returned.
func TestErrorsOfRead(t *testing.T) {
	right := filled(config(), written(base(nil)), written(base(nil)))
	devices := []api.Device{right, {}, filled(config()), filled(config(), []string{junk}, []string{junk})}
	slots := append([]int{0, 1, -1, 2, 3, 4, 12, 256, 1 - 1<<8, 1 << 32, 1<<32 + 1, 1 - 1<<62}, far...)
	range1, range2, few, none := config(), config(), config(), config()
	range1.Blocks, range2.Shards, few.Zones, none.Zones = 129, 0, 9, 1
	for _, c := range []struct {
		config api.Config
		err    api.Errno
	}{{api.Config{}, api.ErrRange}, {range1, api.ErrRange}, {range2, api.ErrRange}, {few, api.ErrConfig}, {none, api.ErrConfig}} {
		for _, d := range devices {
			for _, slot := range slots {
				refuseRead(t, c.config, d, slot, c.err)
			}
			holdNewest(t, c.config, d, api.Base{}, -1)
		}
	}
	for _, d := range devices {
		for _, slot := range slots[2:] {
			refuseRead(t, config(), d, slot, api.ErrRange)
		}
	}
	for slot := range 2 {
		holdRead(t, config(), devices[0], slot, base(nil), api.OK)
		refuseRead(t, config(), devices[1], slot, api.ErrZone)
		refuseRead(t, config(), devices[2], slot, api.ErrForm)
		refuseRead(t, config(), devices[3], slot, api.ErrForm)
	}
}

// TestReadOfEachConfiguration changes one number of a configuration, and has checkpoints in its slots.
func TestReadOfEachConfiguration(t *testing.T) {
	values := []int{0, -1, 1, 2, 3, 4, 5, 8, 9, 11, 12, 13, 32, 33, 64, 65, 128, 129, math.MinInt, math.MaxInt}
	for name, set := range map[string]func(c *api.Config, n int){
		"Zones":  func(c *api.Config, n int) { c.Zones = n },
		"Size":   func(c *api.Config, n int) { c.Size = n },
		"Blocks": func(c *api.Config, n int) { c.Blocks = n },
		"Queues": func(c *api.Config, n int) { c.Queues = n },
		"Depth":  func(c *api.Config, n int) { c.Depth = n },
		"Shards": func(c *api.Config, n int) { c.Shards = n },
	} {
		t.Run(name, func(t *testing.T) {
			zones := slices.Repeat([][]string{written(base(entries(2)))}, 12)
			d := device(config(), zones...)
			for _, n := range values {
				c := config()
				set(&c, n)
				holdSlots(t, c, d)
				holdSlots(t, c, api.Device{})
			}
		})
	}
}

// TestReadOfFewZones has devices with fewer zones than the configuration, and with more: what counts is whether the zones of the slot are
// there.
func TestReadOfFewZones(t *testing.T) {
	b := base(nil)
	for _, c := range []api.Config{
		config(),
		{Zones: 12, Size: 8, Blocks: 6, Queues: 1, Depth: 1, Shards: 1},
		{Zones: 32, Size: 3, Blocks: 37, Queues: 4, Depth: 1, Shards: 1},
		{Zones: 32, Size: 64, Blocks: 128, Queues: 4, Depth: 8, Shards: 8},
	} {
		size := len(layout.Slots(c, 0))
		for n := range 40 {
			d := api.Device{Size: c.Size, MaxOpen: 3, MaxActive: 3}
			for range n {
				d.Zones = append(d.Zones, api.Zone{State: api.ZoneClosed, Durable: 2, Sectors: written(b)})
			}
			for slot := range 2 {
				if n < (slot+1)*size {
					refuseRead(t, c, d, slot, api.ErrZone)
				} else {
					holdRead(t, c, d, slot, b, api.OK)
				}
			}
			if n < size {
				holdNewest(t, c, d, api.Base{}, -1)
			} else {
				holdNewest(t, c, d, b, 0)
			}
			// Zones that are there do not help, whatever they hold.
			for i := range d.Zones {
				d.Zones[i].Sectors = []string{junk}
			}
			for slot := range 2 {
				err := api.ErrForm
				if n < (slot+1)*size {
					err = api.ErrZone
				}
				refuseRead(t, c, d, slot, err)
			}
		}
	}
}

// TestReadOfAnyDevice has devices whose numbers, states and durable sectors are others, also ones that are not valid: only the sectors matter.
func TestReadOfAnyDevice(t *testing.T) {
	b := base(entries(0, 3))
	l := written(b)
	for state := -1; state <= 6; state++ {
		for _, durable := range []int{-1, 0, 1, 2, 3, 4, 100, math.MinInt, math.MaxInt} {
			d := device(config(), l[:3], l[3:], l[:1], l[1:])
			for i := range d.Zones {
				d.Zones[i].State, d.Zones[i].Durable = state, durable
			}
			for slot := range 2 {
				holdRead(t, config(), d, slot, b, api.OK)
			}
		}
	}
	for _, n := range []int{0, 1, 2, 3, 4, 64, 65, -1, math.MinInt, math.MaxInt} {
		d := filled(config(), l, l)
		d.Size, d.MaxOpen, d.MaxActive = n, n, n
		for slot := range 2 {
			holdRead(t, config(), d, slot, b, api.OK)
		}
	}
}

// TestReadOfLongZones has zones with more sectors than the configuration and the device say.
func TestReadOfLongZones(t *testing.T) {
	b := base(firsts(4))
	l := written(b)
	junks := slices.Repeat([]string{junk}, 1<<10)
	for slot := range 2 {
		for name, zones := range map[string][][]string{
			"all in the first zone":   {l, nil},
			"all in the second zone":  {nil, l},
			"four in the first zone":  {l[:4], l[4:]},
			"one in the first zone":   {l[:1], l[1:]},
			"many behind":             {slices.Concat(l, junks), junks},
			"many in the second zone": {l[:2], slices.Concat(l[2:], junks)},
		} {
			t.Run(fmt.Sprint(name, slot), func(t *testing.T) {
				holdRead(t, config(), device(config(), where(slot, zones, [][]string{nil, nil})...), slot, b, api.OK)
			})
		}
		heads := slices.Repeat(l[:1], 1<<10)
		for _, zones := range [][][]string{{heads, heads}, {slices.Concat(heads, l), l}, {slices.Concat(l[:5], heads), l[5:]}, {junks, l}} {
			refuseRead(t, config(), device(config(), where(slot, zones, [][]string{l, l})...), slot, api.ErrForm)
		}
	}
}

// TestReadOfRecordsThatAreNoCheckpoint has sectors of records that Decode refuses, with right sums.
func TestReadOfRecordsThatAreNoCheckpoint(t *testing.T) {
	for name, b := range map[string]api.Base{
		"Sequence 0":      {Sequence: 0, Next: 10, Cut: 9},
		"Sequence":        {Sequence: 1 << 40, Next: 10, Cut: 9},
		"Next":            {Sequence: 4, Next: 1<<40 + 1, Cut: 9},
		"Cut 0":           {Sequence: 4, Next: 10, Cut: 0},
		"Cut behind Next": {Sequence: 4, Next: 10, Cut: 11},
		"order":           base(entries(2, 1)),
		"a block twice":   base(entries(1, 1)),
		"Version 0":       base([]api.Entry{{Block: 1, Kind: 1, Version: 0}}),
		"Version Next":    base([]api.Entry{{Block: 1, Kind: 1, Version: 1000}}),
		"Zone":            base([]api.Entry{{Block: 1, Kind: 1, Version: 3, Place: api.Place{Zone: 32}}}),
		"Offset":          base([]api.Entry{{Block: 1, Kind: 1, Version: 3, Place: api.Place{Offset: 64}}}),
		"a great Block":   base(entries(128)),
	} {
		t.Run(name, func(t *testing.T) {
			l := expectEncode(b)
			for i := range l {
				if _, e := record.Encode(l[i]); e != api.OK {
					t.Fatalf("%+v has no sector", l[i])
				}
			}
			d := filled(config(), sectors(l), sectors(l))
			for slot := range 2 {
				refuseRead(t, config(), d, slot, api.ErrForm)
			}
		})
	}
	for _, change := range []func(l []api.Record){
		func(l []api.Record) { l[0].Block = 3 },
		func(l []api.Record) { l[0].Move = 1 },
		func(l []api.Record) { l[0].Payload = l[0].Payload[:11] },
		func(l []api.Record) { l[0].Payload += "\x00" },
		func(l []api.Record) { l[1].Payload += "\x00" },
		func(l []api.Record) { l[1].Payload = l[1].Payload[:3] },
		func(l []api.Record) { l[1].Kind = api.KindHead },
		func(l []api.Record) { l[1].Kind = api.KindSummary },
		func(l []api.Record) { l[3].Block = 1 },
		func(l []api.Record) { l[3].Version++ },
		func(l []api.Record) { l[3].Move = 1 },
		func(l []api.Record) { l[3].Payload += "\x00" },
		func(l []api.Record) { l[3].Payload = strings.Repeat("\x00", 4) },
	} {
		l := expectEncode(base(entries(0, 3)))
		change(l)
		sealed := resealed(l)
		sealed[3].Payload += l[3].Payload[4:] // what was put behind the sum stays
		for _, l := range [][]api.Record{l, sealed} {
			d := filled(config(), sectors(l), sectors(l))
			for slot := range 2 {
				want, err := expectRead(config(), d, slot)
				holdRead(t, config(), d, slot, want, err)
			}
		}
	}
}
