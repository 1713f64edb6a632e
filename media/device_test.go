package media_test

import (
	"fmt"
	"math"
	"slices"
	"strconv"
	"strings"
	"testing"

	"zoneappend/api"
	"zoneappend/media"
	"zoneappend/zns"
)

// States of zones in short.
const (
	empty   = api.ZoneEmpty
	opened  = api.ZoneOpen
	held    = api.ZoneHeld
	shut    = api.ZoneClosed
	full    = api.ZoneFull
	offline = api.ZoneOffline
)

// great are numbers far from every limit.
var great = []int{math.MinInt, math.MinInt + 1, -1 << 32, -1, 1 << 32, 1<<32 + 1, math.MaxInt - 1, math.MaxInt}

// zone is a zone with a sector for each letter.
func zone(state, durable int, letters string) api.Zone {
	z := api.Zone{State: state, Durable: durable}
	for _, letter := range strings.Split(letters, "") {
		z.Sectors = append(z.Sectors, strings.Repeat(letter, api.SectorBytes))
	}
	return z
}

// device is a device whose limits are as great as its zones are many.
func device(size int, zones ...api.Zone) api.Device {
	return api.Device{Size: size, MaxOpen: len(zones), MaxActive: len(zones), Zones: zones}
}

// text has all that a device has, with the length of each sector before it: two devices are equal if their texts are.
func text(d api.Device) string {
	var b strings.Builder
	b.WriteString("Size " + strconv.Itoa(d.Size) + ", MaxOpen " + strconv.Itoa(d.MaxOpen) + ", MaxActive " + strconv.Itoa(d.MaxActive))
	for _, z := range d.Zones {
		b.WriteString("\n[State " + strconv.Itoa(z.State) + ", Durable " + strconv.Itoa(z.Durable) + ",")
		for _, s := range z.Sectors {
			b.WriteString(" " + strconv.Itoa(len(s)) + ":" + s)
		}
		b.WriteString("]")
	}
	return b.String()
}

// roomy is a copy of a device with other zones behind its own, and other sectors behind theirs.
func roomy(d api.Device) api.Device {
	zones := make([]api.Zone, 0, len(d.Zones)+2)
	for _, z := range d.Zones {
		z.Sectors = append(slices.Clone(z.Sectors), "behind", "the", "last")[:len(z.Sectors)]
		zones = append(zones, z)
	}
	d.Zones = append(zones, zone(77, 1, "x"), zone(88, 2, "y"))[:len(zones)]
	return d
}

// whole is a device with what roomy has put behind its zones and their sectors, and with the memory that was free.
func whole(d api.Device) api.Device {
	d.Zones = slices.Clone(d.Zones[:cap(d.Zones)])
	for i, z := range d.Zones {
		d.Zones[i].Sectors = z.Sectors[:cap(z.Sectors)]
	}
	return d
}

// hold expects what a call returned, for a device that d names.
func hold(t *testing.T, name string, d, got, want api.Device, e, err api.Errno) {
	t.Helper()
	if e != err || text(got) != text(want) {
		t.Fatalf("%s of %s\n= %s\n%d, want %s\n%d", name, text(d), text(got), e, text(want), err)
	}
}

// holdStay expects that a device, a list and all that is behind them are as they were before a call.
func holdStay(t *testing.T, d api.Device, keep []int, call func()) {
	t.Helper()
	device, list := text(whole(d)), slices.Clone(keep[:cap(keep)])
	call()
	if now := text(whole(d)); now != device {
		t.Fatalf("%s\nbecame %s", device, now)
	}
	if now := keep[:cap(keep)]; !slices.Equal(now, list) {
		t.Fatalf("the list %d became %d", list, now)
	}
}

// holdSync expects that Sync leads from a device to another one, or to an error.
func holdSync(t *testing.T, d, want api.Device, err api.Errno) {
	t.Helper()
	d = roomy(d)
	holdStay(t, d, nil, func() {
		got, e := media.Sync(d)
		hold(t, "Sync", d, got, want, e, err)
	})
}

// holdCrash expects that Crash leads from a device to another one, or to an error.
func holdCrash(t *testing.T, d api.Device, keep []int, want api.Device, err api.Errno) {
	t.Helper()
	d, keep = roomy(d), append(slices.Clone(keep), 91, 92, 93)[:len(keep)]
	holdStay(t, d, keep, func() {
		got, e := media.Crash(d, keep)
		hold(t, fmt.Sprintf("Crash with %d", keep), d, got, want, e, err)
	})
}

// holdVolatile expects what Volatile returns.
func holdVolatile(t *testing.T, d api.Device, want ...int) {
	t.Helper()
	d = roomy(d)
	holdStay(t, d, nil, func() {
		if got := media.Volatile(d); !slices.Equal(got, want) {
			t.Fatalf("Volatile of %s\n= %d, want %d", text(d), got, want)
		}
	})
}

// valid expects that a device is valid.
func valid(t *testing.T, d api.Device) {
	t.Helper()
	if e := zns.Check(d); e != api.OK {
		t.Fatalf("%s\nis not valid: %d", text(d), e)
	}
}
