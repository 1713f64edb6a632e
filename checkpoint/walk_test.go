package checkpoint_test

import (
	"math/rand/v2"
	"slices"
	"testing"

	"zoneappend/api"
	"zoneappend/checkpoint"
	"zoneappend/layout"
	"zoneappend/record"
	"zoneappend/zns"
)

// anyBase is a right checkpoint with entries of some of the first blocks.
func anyBase(random *rand.Rand, blocks int) api.Base {
	b := api.Base{Sequence: 1 + random.IntN(1<<40-1), Next: 2 + random.IntN(1<<40-1)}
	if random.IntN(2) == 0 {
		b.Sequence, b.Next = 1+random.IntN(9), 2+random.IntN(20)
	}
	b.Cut = 1 + random.IntN(b.Next)
	share := random.IntN(5)
	for i := range blocks {
		if random.IntN(4) < share {
			place := api.Place{Zone: random.IntN(32), Offset: random.IntN(64)}
			b.Entries = append(b.Entries, api.Entry{Block: i, Kind: 1, Version: 1 + random.IntN(b.Next-1), Move: random.IntN(256), Place: place})
		}
	}
	return b
}

// anyNumber is a number that is near to an end of a range, or far from all.
func anyNumber(random *rand.Rand) int {
	switch random.IntN(4) {
	case 0:
		return far[random.IntN(len(far))]
	case 1:
		return random.IntN(300) - 20
	case 2:
		return random.IntN(6)
	}
	return 1<<40 - 3 + random.IntN(6)
}

// changeBase changes a number of a checkpoint, or the order or the number of its entries.
func changeBase(random *rand.Rand, b *api.Base) {
	k := random.IntN(len(fields) + 5)
	n := len(b.Entries)
	switch {
	case k == 0:
		b.Sequence = anyNumber(random)
	case k == 1:
		b.Next = anyNumber(random)
	case k == 2:
		b.Cut = anyNumber(random)
	case n == 0:
	case k == 3:
		i, k := random.IntN(n), random.IntN(n)
		b.Entries[i], b.Entries[k] = b.Entries[k], b.Entries[i]
	case k == 4:
		for range random.IntN(140) {
			b.Entries = append(b.Entries, b.Entries[n-1])
		}
	default:
		fields[k-5].set(&b.Entries[random.IntN(n)], anyNumber(random))
	}
}

// TestChangedCheckpoints has right checkpoints, and what a few changes make of them.
func TestChangedCheckpoints(t *testing.T) {
	random := rand.New(rand.NewPCG(21, 1))
	counts := map[api.Errno]int{}
	for range 3000 {
		b := anyBase(random, random.IntN(129))
		holdCheck(t, b, api.OK)
		for range 3 {
			changeBase(random, &b)
			want := expectCheck(b)
			holdCheck(t, b, want)
			counts[want]++
		}
	}
	if len(counts) != 5 {
		t.Errorf("%v", counts)
	}
}

// changeRecords changes a record, or the number or the order of records.
func changeRecords(random *rand.Rand, l []api.Record) []api.Record {
	n := len(l)
	if n == 0 {
		return l
	}
	i, k := random.IntN(n), random.IntN(n)
	switch random.IntN(8) {
	case 0:
		return slices.Delete(l, i, i+1)
	case 1:
		return slices.Insert(l, i, l[k])
	case 2:
		l[i], l[k] = l[k], l[i]
	case 3:
		return l[:i]
	case 4:
		l[i].Payload = l[k].Payload
	case 5:
		at := random.IntN(len(l[i].Payload) + 1)
		l[i].Payload = l[i].Payload[:at] + "\x01" + l[i].Payload[min(at+random.IntN(3), len(l[i].Payload)):]
	default:
		*recordFields[random.IntN(4)].of(&l[i]) = anyNumber(random)
	}
	return l
}

// TestChangedRecords has the records of right checkpoints, and what a few changes make of them.
func TestChangedRecords(t *testing.T) {
	random := rand.New(rand.NewPCG(21, 2))
	right := 0
	for range 20000 {
		l := expectEncode(anyBase(random, random.IntN(8)))
		for range 3 {
			l = changeRecords(random, l)
			for _, l := range [][]api.Record{l, resealed(l)} {
				want, err := expectDecode(l)
				decode(t, l, want, err)
				if err == api.OK {
					right++
				}
			}
		}
	}
	if right < 100 {
		t.Errorf("only %d checkpoints", right)
	}
}

// anySlot are sectors in the zones of a slot: those of a checkpoint, perhaps with something ahead, within and behind.
func anySlot(random *rand.Rand, c api.Config, zones int) [][]string {
	l := written(anyBase(random, random.IntN(c.Blocks+1)))
	others := append(written(anyBase(random, c.Blocks)), junk, sectorOf(api.Record{Kind: api.KindTrim, Version: 3}), "")
	for random.IntN(3) == 0 {
		l = slices.Insert(l, random.IntN(len(l)+1), others[random.IntN(len(others))])
	}
	if random.IntN(4) == 0 {
		i := random.IntN(len(l))
		l = slices.Delete(l, i, i+1)
	}
	if random.IntN(3) == 0 {
		l = append(l, others...)
	}
	var lists [][]string
	for range zones {
		n := min(len(l), c.Size)
		if random.IntN(3) == 0 {
			n = random.IntN(n + 1)
		}
		lists = append(lists, l[:n])
		l = l[n:]
	}
	return lists
}

// TestAnyDevices has devices with anything in their slots.
func TestAnyDevices(t *testing.T) {
	random := rand.New(rand.NewPCG(21, 3))
	slots := map[int]int{}
	for range 4000 {
		c := api.Config{Zones: 1 + random.IntN(32), Size: 3 + random.IntN(8), Blocks: 1 + random.IntN(20), Queues: 1, Depth: 1, Shards: 1}
		zones := len(layout.Slots(c, 0))
		if zones == 0 {
			continue
		}
		d := device(c, slices.Concat(anySlot(random, c, zones), anySlot(random, c, zones))...)
		if random.IntN(8) == 0 {
			d.Zones = d.Zones[:random.IntN(len(d.Zones)+1)]
		}
		if random.IntN(4) == 0 {
			c.Blocks = 1 + random.IntN(c.Blocks)
		}
		holdSlots(t, c, d)
		_, at := checkpoint.Newest(c, d)
		slots[at]++
	}
	if len(slots) != 3 {
		t.Errorf("%v", slots)
	}
}

// TestTurns writes one checkpoint after the other, in turns into the slots: at each moment the newest one is the last one that is whole.
func TestTurns(t *testing.T) {
	random := rand.New(rand.NewPCG(21, 4))
	for _, c := range []api.Config{config(), {Zones: 20, Size: 5, Blocks: 13, Queues: 1, Depth: 1, Shards: 1}, {Zones: 12, Size: 8, Blocks: 6, Queues: 1, Depth: 1, Shards: 1}} {
		d, _ := zns.New(c.Zones, c.Size, 3, 3)
		last, at := api.Base{}, -1
		for turn := range 60 {
			b := anyBase(random, c.Blocks)
			b.Sequence = turn + 1
			slot := turn % 2
			zones := layout.Slots(c, slot)
			for _, zone := range zones {
				d, _ = zns.Reset(d, zone)
				holdNewest(t, c, d, last, at)
			}
			l, _ := checkpoint.Encode(b)
			for i, r := range l {
				holdNewest(t, c, d, last, at)
				s, _ := record.Encode(r)
				d, _, _ = zns.Append(d, zones[i/c.Size], s)
			}
			last, at = b, slot
			holdNewest(t, c, d, last, at)
			if random.IntN(3) == 0 {
				for _, zone := range zones {
					d, _ = zns.Finish(d, zone)
				}
				holdNewest(t, c, d, last, at)
			}
		}
	}
}
