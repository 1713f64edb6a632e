package media_test

import (
	"fmt"
	"math/rand/v2"
	"slices"
	"testing"

	"zoneappend/api"
	"zoneappend/media"
	"zoneappend/zns"
)

// written is what a walk knows of a zone: what was appended to it since it was reset, and how many of that is durable.
type written struct {
	sectors []string
	durable int
}

// holdWritten expects that a device has the sectors that a walk has appended.
func holdWritten(t *testing.T, d api.Device, zones []written) {
	t.Helper()
	for at, w := range zones {
		if z := d.Zones[at]; !slices.Equal(z.Sectors, w.sectors) || z.Durable != w.durable {
			t.Fatalf("the zone %d of %s\nhas not the sectors %q, %d durable", at, text(d), w.sectors, w.durable)
		}
	}
}

// keepSome is a list of numbers of sectors that may stay: of any length, with any numbers.
func keepSome(r *rand.Rand, zones, size int) []int {
	keep := make([]int, r.IntN(zones+3))
	for i := range keep {
		keep[i] = r.IntN(size+3) - 2
		if r.IntN(9) == 0 {
			keep[i] = great[r.IntN(len(great))]
		}
	}
	return keep
}

// fail expects of a power failure that what is durable stays and that what stays is a beginning, and notes what has stayed.
func fail(t *testing.T, d api.Device, keep []int, zones []written) api.Device {
	t.Helper()
	next, e := media.Crash(d, keep)
	hold(t, fmt.Sprintf("Crash with %d", keep), d, next, expectCrash(d, keep), e, api.OK)
	for at := range zones {
		n := len(next.Zones[at].Sectors)
		if n < zones[at].durable || n > len(zones[at].sectors) {
			t.Fatalf("the zone %d of %s\nhas not lost right: %s", at, text(d), text(next))
		}
		zones[at] = written{slices.Clone(zones[at].sectors[:n]), n}
	}
	if open, _ := zns.Counts(next); open != 0 {
		t.Fatalf("%d zones of %s\nare open", open, text(next))
	}
	return next
}

// flush expects of a flush that all is durable, and notes it.
func flush(t *testing.T, d api.Device, zones []written) api.Device {
	t.Helper()
	next, e := media.Sync(d)
	hold(t, "Sync", d, next, expectSync(d), e, api.OK)
	for at := range zones {
		zones[at].durable = len(zones[at].sectors)
	}
	return next
}

// change does one thing to a zone of a device, and notes it.
func change(r *rand.Rand, d api.Device, at int, zones []written) api.Device {
	var e api.Errno
	w := &zones[at]
	next := d
	switch r.IntN(25) {
	case 0:
		if next, e = zns.Reset(d, at); e == api.OK {
			*w = written{}
		}
	case 1:
		if next, e = zns.Finish(d, at); e == api.OK {
			w.durable = len(w.sectors)
		}
	case 2:
		next, _ = zns.Open(d, at)
	case 3:
		next, _ = zns.Close(d, at)
	default:
		sector := letter(byte(' ' + r.IntN(90)))
		if next, _, e = zns.Append(d, at, sector); e != api.OK {
			return d
		}
		if w.sectors = append(w.sectors, sector); len(w.sectors) == d.Size {
			w.durable = d.Size
		}
	}
	return next
}

// sectors is how many sectors a device has.
func sectors(d api.Device) int {
	n := 0
	for _, z := range d.Zones {
		n += len(z.Sectors)
	}
	return n
}

// walk does many things to a device with n zones, with flushes and power failures between them.
func walk(t *testing.T, seed uint64, n, size, open, active int) {
	t.Helper()
	r := rand.New(rand.NewPCG(seed, 6))
	d, e := zns.New(n, size, open, active)
	if e != api.OK {
		t.Fatal(e)
	}
	zones := make([]written, n)
	l := []kept{keeping(d)}
	lost := 0
	for range 2000 {
		switch r.IntN(15) {
		case 0:
			d = flush(t, d, zones)
		case 1:
			before := sectors(d)
			d = fail(t, d, keepSome(r, n, size), zones)
			lost += before - sectors(d)
		default:
			d = change(r, d, r.IntN(n), zones)
		}
		valid(t, d)
		holdWritten(t, d, zones)
		holdVolatile(t, d, expectVolatile(d)...)
		l = append(l, keeping(d))
	}
	holdKept(t, l)
	if lost == 0 {
		t.Errorf("a walk with %d zones of %d sectors has lost nothing", n, size)
	}
}

func TestWalks(t *testing.T) {
	for seed := range uint64(3) {
		walk(t, seed, 1, 64, 1, 1)
		walk(t, seed, 2, 9, 1, 2)
		walk(t, seed, 3, 12, 2, 2)
		walk(t, seed, 5, 4, 2, 3)
		walk(t, seed, 12, 8, 3, 3)
		walk(t, seed, 7, 16, 7, 7)
	}
}
