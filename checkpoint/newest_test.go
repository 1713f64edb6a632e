package checkpoint_test

import (
	"fmt"
	"slices"
	"testing"

	"zoneappend/api"
)

// content is what a slot of config has, and the Sequence of its checkpoint (0: it has none).
type content struct {
	name     string
	sectors  []string
	sequence int
	base     api.Base
}

// contents are various contents of a slot.
func contents() []content {
	l := []content{
		{name: "nothing"},
		{name: "junk", sectors: []string{junk}},
		{name: "no foot", sectors: written(numbered(90, entries(0, 3)))[:3]},
		{name: "no head", sectors: written(numbered(90, entries(0, 3)))[1:]},
		{name: "a great block", sectors: written(numbered(90, entries(4)))},
		{name: "junk ahead", sectors: append([]string{junk}, written(numbered(90, nil))...)},
	}
	for _, sequence := range []int{1, 2, 4, 5, 1<<32 + 1, 1<<40 - 1} {
		for _, blocks := range [][]int{nil, {0, 3}, {1}} {
			b := numbered(sequence, entries(blocks...))
			b.Next += 10 * len(blocks)
			b.Cut += sequence % 5
			l = append(l, content{fmt.Sprint(sequence, blocks), written(b), sequence, b})
		}
	}
	return l
}

// TestNewest has each content in each slot.
func TestNewest(t *testing.T) {
	for _, a := range contents() {
		for _, b := range contents() {
			t.Run(a.name+", "+b.name, func(t *testing.T) {
				d := filled(config(), a.sectors, b.sectors)
				switch {
				case a.sequence == 0 && b.sequence == 0:
					holdNewest(t, config(), d, api.Base{}, -1)
				case a.sequence >= b.sequence:
					holdNewest(t, config(), d, a.base, 0)
				default:
					holdNewest(t, config(), d, b.base, 1)
				}
			})
		}
	}
}

// TestNewestByItsSequence has the lesser Sequence with the greater Next and Cut, and with more and newer entries.
func TestNewestByItsSequence(t *testing.T) {
	older := api.Base{Sequence: 4, Next: 2000, Cut: 1900, Entries: []api.Entry{entry(0, 1800), entry(1, 1999), entry(3, 1700)}}
	newer := api.Base{Sequence: 5, Next: 2, Cut: 1, Entries: []api.Entry{entry(2, 1)}}
	holdNewest(t, config(), filled(config(), written(older), written(newer)), newer, 1)
	holdNewest(t, config(), filled(config(), written(newer), written(older)), newer, 0)
	newer.Sequence = 4
	holdNewest(t, config(), filled(config(), written(older), written(newer)), older, 0)
	holdNewest(t, config(), filled(config(), written(newer), written(older)), newer, 0)
}

// TestNewestOfDamagedSlots takes the newer checkpoint, and damages each of its sectors: then it is the older one, and none without that.
func TestNewestOfDamagedSlots(t *testing.T) {
	older, newer := numbered(4, entries(0, 3)), numbered(5, entries(1, 2))
	for slot := range 2 {
		good := make([][]string, 2)
		good[slot], good[1-slot] = written(newer), written(older)
		holdNewest(t, config(), filled(config(), good...), newer, slot)
		for i := range good[slot] {
			bad := slices.Clone(good)
			bad[slot] = slices.Clone(bad[slot])
			bad[slot][i] = junk
			holdNewest(t, config(), filled(config(), bad...), older, 1-slot)
			bad[slot] = slices.Delete(slices.Clone(good[slot]), i, i+1)
			holdNewest(t, config(), filled(config(), bad...), older, 1-slot)
			bad[1-slot] = bad[slot]
			holdNewest(t, config(), filled(config(), bad...), api.Base{}, -1)
		}
	}
}

// TestNewestOfFewZones has devices without the second slot, and without any.
func TestNewestOfFewZones(t *testing.T) {
	older, newer := numbered(4, nil), numbered(5, nil)
	d := filled(config(), written(older), written(newer))
	for n := range 13 {
		few := d
		few.Zones = d.Zones[:n]
		switch {
		case n < 2:
			holdNewest(t, config(), few, api.Base{}, -1)
		case n < 4:
			holdNewest(t, config(), few, older, 0)
		default:
			holdNewest(t, config(), few, newer, 1)
		}
	}
}
