package media_test

import (
	"slices"
	"strings"
	"testing"

	"zoneappend/api"
	"zoneappend/media"
	"zoneappend/zns"
)

// kept is what was returned, and what it was then.
type kept struct {
	device api.Device
	then   string
	counts []int
	copied []int
}

// keeping is a device that was returned, with what Volatile returns for it.
func keeping(d api.Device) kept {
	counts := media.Volatile(d)
	return kept{d, text(d), counts, slices.Clone(counts)}
}

// holdKept expects that what was returned is what it was.
func holdKept(t *testing.T, l []kept) {
	t.Helper()
	for i, k := range l {
		if now := text(k.device); now != k.then {
			t.Fatalf("the device %d of %d: %s\nbecame %s", i, len(l), k.then, now)
		}
		if !slices.Equal(k.counts, k.copied) {
			t.Fatalf("the list %d of %d: %d became %d", i, len(l), k.copied, k.counts)
		}
	}
}

// letter is a sector of one letter.
func letter(b byte) string { return strings.Repeat(string(rune(b)), api.SectorBytes) }

// appended is a device with one more sector in a zone.
func appended(t *testing.T, d api.Device, at int, sector string) api.Device {
	t.Helper()
	next, _, e := zns.Append(d, at, sector)
	if e != api.OK {
		t.Fatalf("Append to the zone %d of %s: %d", at, text(d), e)
	}
	return next
}

// TestAppendsBehindCrashes has one device fail in each way, and appends other sectors to each of the results, again and again.
func TestAppendsBehindCrashes(t *testing.T) {
	d := device(9, zone(opened, 2, "abcdef"), zone(held, 0, "ghijkl"))
	l := []kept{keeping(d)}
	for k := range 8 {
		for m := range byte(3) {
			next, e := media.Crash(d, []int{k, 7 - k})
			if e != api.OK {
				t.Fatal(e)
			}
			l = append(l, keeping(next))
			for i := range byte(3) {
				next = appended(t, appended(t, next, 0, letter('A'+m+3*i)), 1, letter('M'+m+3*i))
				l = append(l, keeping(next))
			}
		}
	}
	holdKept(t, l)
}

// TestSpareMemoryIsNotShared appends to the lists of a result, as nobody should: the device that was given stays.
func TestSpareMemoryIsNotShared(t *testing.T) {
	d := device(9, zone(opened, 2, "abcdef"), zone(full, 3, "xyz"))
	crashed, _ := media.Crash(d, []int{1})
	synced, _ := media.Sync(d)
	before := []string{text(d), text(crashed), text(synced)}
	for at := range d.Zones {
		_ = append(crashed.Zones[at].Sectors, "written")
	}
	_ = append(crashed.Zones[:1], zone(offline, 0, ""))
	if now := []string{text(d), text(synced)}; now[0] != before[0] || now[1] != before[2] {
		t.Errorf("%s\nbecame %s", before, now)
	}
	_ = append(synced.Zones[:1], zone(offline, 0, ""))
	if now := text(d); now != before[0] {
		t.Errorf("%s\nbecame %s", before[0], now)
	}
}
