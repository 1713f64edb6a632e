package zns_test

import (
	"slices"
	"strconv"
	"strings"

	"zoneappend/api"
)

// States of zones in short.
const (
	empty   = api.ZoneEmpty
	opened  = api.ZoneOpen
	held    = api.ZoneHeld
	shut    = api.ZoneClosed
	full    = api.ZoneFull
	offline = api.ZoneOffline
)

// sector is a sector of one letter.
func sector(letter byte) string { return strings.Repeat(string(rune(letter)), 40) }

// zone is a zone with a sector for each letter.
func zone(state, durable int, letters string) api.Zone {
	z := api.Zone{State: state, Durable: durable}
	for i := range len(letters) {
		z.Sectors = append(z.Sectors, sector(letters[i]))
	}
	return z
}

// device is a device with zones of three sectors.
func device(open, active int, zones ...api.Zone) api.Device {
	return api.Device{Size: 3, MaxOpen: open, MaxActive: active, Zones: zones}
}

// sameZone tells whether two zones are equal.
func sameZone(a, b api.Zone) bool {
	return a.State == b.State && a.Durable == b.Durable && slices.Equal(a.Sectors, b.Sectors)
}

// same tells whether two devices are equal.
func same(a, b api.Device) bool {
	return a.Size == b.Size && a.MaxOpen == b.MaxOpen && a.MaxActive == b.MaxActive && slices.EqualFunc(a.Zones, b.Zones, sameZone)
}

// clone is a device that shares no memory with another one.
func clone(d api.Device) api.Device {
	d.Zones = slices.Clone(d.Zones)
	for i := range d.Zones {
		d.Zones[i].Sectors = slices.Clone(d.Zones[i].Sectors)
	}
	return d
}

// replaced is the device with another zone at an index.
func replaced(d api.Device, i int, z api.Zone) api.Device {
	d = clone(d)
	d.Zones[i] = z
	return d
}

// roomy is the device with memory behind its zones and behind their sectors that is marked.
func roomy(d api.Device) api.Device {
	d = clone(d)
	n := len(d.Zones)
	for i, z := range d.Zones {
		d.Zones[i].Sectors = append(z.Sectors, "behind", "the", "sectors")[:len(z.Sectors)]
	}
	d.Zones = append(d.Zones, api.Zone{State: 77}, api.Zone{Durable: 88})[:n]
	return d
}

// whole is the device with what is in the memory behind its zones and behind their sectors.
func whole(d api.Device) api.Device {
	d = clone(d)
	d.Zones = slices.Clone(d.Zones[:cap(d.Zones)])
	for i, z := range d.Zones {
		d.Zones[i].Sectors = slices.Clone(z.Sectors[:cap(z.Sectors)])
	}
	return d
}

// text is a device in short: of each sector it has the first byte, or its length, if that is not 40.
func text(d api.Device) string {
	var b strings.Builder
	b.WriteString("{" + strconv.Itoa(d.Size) + " " + strconv.Itoa(d.MaxOpen) + " " + strconv.Itoa(d.MaxActive))
	for _, z := range d.Zones {
		b.WriteString(" [" + strconv.Itoa(z.State) + " " + strconv.Itoa(z.Durable) + " ")
		for _, s := range z.Sectors {
			if len(s) == 40 {
				b.WriteString(s[:1])
			} else {
				b.WriteString("(" + strconv.Itoa(len(s)) + ")")
			}
		}
		b.WriteString("]")
	}
	return b.String() + "}"
}
