package checkpoint_test

import (
	"encoding/binary"
	"hash/crc32"
	"slices"
	"strings"

	"zoneappend/api"
	"zoneappend/layout"
	"zoneappend/record"
)

// What the chapter says, read once more: with the standard library's numbers and sums, and each record looked at by itself.

// expectCheck is what Check returns.
func expectCheck(b api.Base) api.Errno {
	if b.Sequence < 1 || b.Sequence >= 1<<40 || b.Next < 1 || b.Next > 1<<40 || b.Cut < 1 || b.Cut > b.Next {
		return 1
	}
	if len(b.Entries) > 128 {
		return 19
	}
	for i, x := range b.Entries {
		if x.Kind != 1 {
			return 3
		}
		for _, n := range [][3]int{{0, x.Block, 127}, {1, x.Version, b.Next - 1}, {0, x.Move, 255}, {0, x.Place.Zone, 31}, {0, x.Place.Offset, 63}} {
			if !slices.IsSorted(n[:]) {
				return 1
			}
		}
		if i > 0 && x.Block <= b.Entries[i-1].Block {
			return 17
		}
	}
	return 0
}

// bytes are the lowest bytes of a number.
func bytes(n, size int) string {
	return string(binary.LittleEndian.AppendUint64(nil, uint64(n))[:size])
}

// number is the number with some bytes, up to eight.
func number(b string) int {
	return int(binary.LittleEndian.Uint64([]byte(b + strings.Repeat("\x00", 8-len(b)))))
}

// bodyOf is the sector of a record without its checksum, whatever the record is: only the lowest bytes of numbers that are too great, and
// only the first bytes of a payload that is too long.
func bodyOf(r api.Record) string {
	payload := (r.Payload + strings.Repeat("\x00", 20))[:20]
	return "ZA" + bytes(r.Kind, 1) + bytes(len(r.Payload), 1) + bytes(r.Block, 4) + bytes(r.Version, 6) + bytes(r.Move, 1) + "\x00" + payload
}

// sectorOf is the sector of a record.
func sectorOf(r api.Record) string {
	body := bodyOf(r)
	return body + sumOfBytes(body)
}

// sumOf is the payload of the foot behind some records.
func sumOf(l []api.Record) string {
	var bodies strings.Builder
	for _, r := range l {
		bodies.WriteString(bodyOf(r))
	}
	return sumOfBytes(bodies.String())
}

// sumOfBytes is a sum, as a payload has it.
func sumOfBytes(b string) string { return bytes(int(crc32.ChecksumIEEE([]byte(b))), 4) }

// expectEncode is what Encode returns for a right checkpoint.
func expectEncode(b api.Base) []api.Record {
	n := len(b.Entries)
	l := []api.Record{{Kind: 4, Block: n, Version: b.Sequence, Payload: bytes(b.Next, 6) + bytes(b.Cut, 6)}}
	for _, x := range b.Entries {
		l = append(l, api.Record{Kind: 5, Block: x.Block, Version: x.Version, Move: x.Move, Payload: bytes(x.Place.Zone, 2) + bytes(x.Place.Offset, 2)})
	}
	return append(l, api.Record{Kind: 6, Block: n, Version: b.Sequence, Payload: sumOf(l)})
}

// expectDecode is what Decode returns.
func expectDecode(l []api.Record) (api.Base, api.Errno) {
	n := len(l) - 2
	if n < 0 || n > 128 {
		return api.Base{}, 3
	}
	head, foot := l[0], l[n+1]
	if head.Kind != 4 || head.Block != n || head.Move != 0 || len(head.Payload) != 12 ||
		foot.Kind != 6 || foot.Block != n || foot.Move != 0 || foot.Version != head.Version || foot.Payload != sumOf(l[:n+1]) {
		return api.Base{}, 3
	}
	b := api.Base{Sequence: head.Version, Next: number(head.Payload[:6]), Cut: number(head.Payload[6:])}
	for _, r := range l[1 : n+1] {
		if r.Kind != 5 || len(r.Payload) != 4 {
			return api.Base{}, 3
		}
		place := api.Place{Zone: number(r.Payload[:2]), Offset: number(r.Payload[2:])}
		b.Entries = append(b.Entries, api.Entry{Block: r.Block, Kind: 1, Version: r.Version, Move: r.Move, Place: place})
	}
	if expectCheck(b) != 0 {
		return api.Base{}, 3
	}
	return b, 0
}

// expectRead is what Read returns.
func expectRead(c api.Config, d api.Device, slot int) (api.Base, api.Errno) {
	if e := layout.Check(c); e != 0 {
		return api.Base{}, e
	}
	if slot < 0 || slot > 1 {
		return api.Base{}, 1
	}
	zones := (c.Blocks + 2 + c.Size - 1) / c.Size
	if (slot+1)*zones > len(d.Zones) {
		return api.Base{}, 5
	}
	var l []api.Record
	for _, sector := range sectorsIn(d.Zones[slot*zones : (slot+1)*zones]) {
		r, e := record.Decode(sector)
		if e != 0 {
			return api.Base{}, 3
		}
		l = append(l, r)
		if r.Kind == 6 {
			return expectFitting(c, l)
		}
	}
	return api.Base{}, 3
}

// sectorsIn are the sectors of zones.
func sectorsIn(zones []api.Zone) []string {
	var l []string
	for _, z := range zones {
		l = append(l, z.Sectors...)
	}
	return l
}

// expectFitting is what Decode returns, or an error if a configuration has not the blocks.
func expectFitting(c api.Config, l []api.Record) (api.Base, api.Errno) {
	b, e := expectDecode(l)
	if e != 0 || len(b.Entries) > c.Blocks {
		return api.Base{}, 3
	}
	for _, x := range b.Entries {
		if x.Block >= c.Blocks {
			return api.Base{}, 3
		}
	}
	return b, 0
}

// expectNewest is what Newest returns.
func expectNewest(c api.Config, d api.Device) (api.Base, int) {
	first, e := expectRead(c, d, 0)
	second, f := expectRead(c, d, 1)
	switch {
	case e != 0 && f != 0:
		return api.Base{}, -1
	case e != 0, f == 0 && second.Sequence > first.Sequence:
		return second, 1
	}
	return first, 0
}
