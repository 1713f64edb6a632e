package zns_test

import (
	"slices"
	"strconv"
	"testing"

	"zoneappend/api"
	"zoneappend/zns"
)

// Kinds of calls.
const (
	appending = "Append"
	reading   = "Read"
	resetting = "Reset"
	finishing = "Finish"
	opening   = "Open"
	closing   = "Close"
)

// call is a call of a function that has the device and a zone.
type call struct {
	kind         string
	zone, offset int
	sector       string
}

// outcome is what a call returns.
type outcome struct {
	device api.Device
	offset int
	sector string
	err    api.Errno
}

// on makes a call.
func (c call) on(d api.Device) outcome {
	var o outcome
	switch c.kind {
	case appending:
		o.device, o.offset, o.err = zns.Append(d, c.zone, c.sector)
	case reading:
		o.sector, o.err = zns.Read(d, c.zone, c.offset)
	case resetting:
		o.device, o.err = zns.Reset(d, c.zone)
	case finishing:
		o.device, o.err = zns.Finish(d, c.zone)
	case opening:
		o.device, o.err = zns.Open(d, c.zone)
	case closing:
		o.device, o.err = zns.Close(d, c.zone)
	}
	return o
}

// text is a call in short.
func (c call) text() string {
	s := c.kind + " of the zone " + strconv.Itoa(c.zone)
	if c.kind == reading {
		return s + ", " + strconv.Itoa(c.offset)
	}
	return s + ", " + strconv.Itoa(len(c.sector)) + " bytes"
}

// opens tells whether a call is one that opens a zone.
func (c call) opens() bool { return c.kind == appending || c.kind == opening }

// expected is what a call must return.
func (c call) expected(d api.Device) outcome {
	changed := clone(d)
	e := c.refusal(d)
	if e == api.OK && c.opens() && d.Zones[c.zone].State != opened && d.Zones[c.zone].State != held {
		e = expectRoom(&changed, c.zone)
	}
	switch {
	case e != api.OK && c.kind == reading:
		return outcome{err: e}
	case e != api.OK:
		return outcome{device: d, err: e}
	case c.kind == reading:
		return outcome{sector: d.Zones[c.zone].Sectors[c.offset]}
	}
	z := &changed.Zones[c.zone]
	o := outcome{device: changed}
	switch c.kind {
	case appending:
		o.offset = len(z.Sectors)
		z.Sectors = append(z.Sectors, c.sector)
		if z.State != held {
			z.State = opened
		}
		if len(z.Sectors) == d.Size {
			z.State, z.Durable = full, d.Size
		}
	case resetting:
		z.State, z.Durable, z.Sectors = empty, 0, nil
	case finishing:
		z.State, z.Durable = full, len(z.Sectors)
	case opening:
		z.State = held
	case closing:
		expectClosed(z)
	}
	return o
}

// refusal is the first error of a call, without those of making room.
func (c call) refusal(d api.Device) api.Errno {
	if e := expectCheck(d); e != api.OK {
		return e
	}
	if c.zone < 0 || c.zone >= len(d.Zones) {
		return api.ErrZone
	}
	z := d.Zones[c.zone]
	switch {
	case c.kind == appending && len(c.sector) != 40:
		return api.ErrSize
	case z.State == offline:
		return api.ErrState
	case c.kind == closing && (z.State == empty || z.State == full):
		return api.ErrState
	case c.opens() && z.State == full:
		return api.ErrFull
	case c.kind == reading && (c.offset < 0 || c.offset >= len(z.Sectors)):
		return api.ErrOffset
	}
	return api.OK
}

// expectClosed closes a zone that is open or closed.
func expectClosed(z *api.Zone) {
	if z.State != shut {
		z.State = shut
		if len(z.Sectors) == 0 {
			z.State = empty
		}
	}
}

// expectRoom makes room for opening a zone, or changes something and returns an error.
func expectRoom(d *api.Device, zone int) api.Errno {
	if open, _ := expectCounts(*d); open == d.MaxOpen {
		least := -1
		for i := range d.Zones {
			if least < 0 && d.Zones[i].State == opened {
				least = i
			}
		}
		if least < 0 {
			return api.ErrOpen
		}
		expectClosed(&d.Zones[least])
	}
	if _, active := expectCounts(*d); active == d.MaxActive && d.Zones[zone].State != shut {
		return api.ErrActive
	}
	return api.OK
}

// expectCounts counts the open and the active zones.
func expectCounts(d api.Device) (int, int) {
	var count [6]int
	for _, z := range d.Zones {
		if 0 <= z.State && z.State < 6 {
			count[z.State]++
		}
	}
	open := count[opened] + count[held]
	return open, open + count[shut]
}

// expectCheck is the error of a device.
func expectCheck(d api.Device) api.Errno {
	n := len(d.Zones)
	if n < 1 || n > 32 || d.Size < 3 || d.Size > 64 || d.MaxOpen < 1 || d.MaxOpen > d.MaxActive || d.MaxActive > n {
		return api.ErrConfig
	}
	for _, z := range d.Zones {
		pointer := len(z.Sectors)
		broken := z.State < 0 || z.State > 5 ||
			slices.ContainsFunc(z.Sectors, func(s string) bool { return len(s) != 40 }) ||
			pointer > d.Size || z.Durable < 0 || z.Durable > pointer ||
			pointer != 0 && (z.State == 0 || z.State == 5) ||
			pointer == d.Size && z.State != 4 ||
			z.State == 4 && z.Durable != pointer
		if broken {
			return api.ErrState
		}
	}
	if open, active := expectCounts(d); open > d.MaxOpen || active > d.MaxActive {
		return api.ErrState
	}
	return api.OK
}

// hold makes a call, holds it against what is expected, and returns the outcome.
func hold(t *testing.T, c call, d api.Device) outcome {
	t.Helper()
	got, want := c.on(d), c.expected(d)
	if got.err != want.err || got.offset != want.offset || got.sector != want.sector || !same(got.device, want.device) {
		t.Fatalf("%s of %s: %s, %d, %q, %d, want %s, %d, %q, %d", c.text(), text(d), text(got.device), got.offset, got.sector, got.err,
			text(want.device), want.offset, want.sector, want.err)
	}
	return got
}
