package codec

import (
	"encoding/binary"
	"math"
	"strings"
	"testing"

	"zoneappend/api"
)

// wrongSizes are the sizes just outside of 1 to 7, and others that no number has.
var wrongSizes = []int{0, 8, -1, -7, 9, 56, 64, 1 << 32, math.MinInt, math.MaxInt}

// noise returns n bytes that follow no plain pattern, the same ones for each seed.
func noise(n int, seed uint32) string {
	b := make([]byte, n)
	for i := range b {
		seed = seed*1664525 + 1013904223
		b[i] = byte(seed >> 24)
	}
	return string(b)
}

// power is 256^size.
func power(size int) int {
	p := 1
	for range size {
		p *= 256
	}
	return p
}

// bytesOf is what the standard library makes of a number.
func bytesOf(n, size int) string {
	return string(binary.LittleEndian.AppendUint64(nil, uint64(n))[:size])
}

// numbers are numbers that are not negative, of all sizes: each bit, the neighbours of each power of 2, and others.
func numbers() []int {
	l := []int{0, 258, 0x010203, 0x01020304050607, 0x07060504030201, api.MaxVersion, math.MaxInt}
	for bit := range 63 {
		l = append(l, 1<<bit-1, 1<<bit, 1<<bit+1)
	}
	for seed := range 50 {
		l = append(l, int(binary.LittleEndian.Uint64([]byte(noise(8, uint32(seed))))>>1)>>seed)
	}
	return l
}

func TestPutKnownNumbers(t *testing.T) {
	for _, c := range []struct {
		n, size int
		want    string
	}{
		{258, 2, "\x02\x01"},
		{0, 1, "\x00"},
		{0, 7, "\x00\x00\x00\x00\x00\x00\x00"},
		{1, 3, "\x01\x00\x00"},
		{127, 1, "\x7f"},
		{128, 1, "\x80"},
		{255, 1, "\xff"},
		{256, 2, "\x00\x01"},
		{256, 4, "\x00\x01\x00\x00"},
		{0x80000000, 4, "\x00\x00\x00\x80"},
		{0xcbf43926, 4, "\x26\x39\xf4\xcb"},
		{api.MaxVersion, 6, "\x00\x00\x00\x00\x00\x01"},
		{0x01020304050607, 7, "\x07\x06\x05\x04\x03\x02\x01"},
	} {
		if s, e := Put(c.n, c.size); s != c.want || e != api.OK {
			t.Errorf("Put(%d, %d) = %q, %v, want %q", c.n, c.size, s, e, c.want)
		}
	}
}

func TestPutEachSize(t *testing.T) {
	for size := 1; size <= 7; size++ {
		for _, n := range numbers() {
			want, err := "", api.ErrRange
			if n < power(size) {
				want, err = bytesOf(n, size), api.OK
			}
			if s, e := Put(n, size); s != want || e != err {
				t.Errorf("Put(%d, %d) = %q, %v, want %q, %v", n, size, s, e, want, err)
			}
		}
	}
}

func TestPutGreatestNumberAndTheNext(t *testing.T) {
	for size := 1; size <= 7; size++ {
		want := strings.Repeat("\xff", size)
		if s, e := Put(power(size)-1, size); s != want || e != api.OK {
			t.Errorf("the greatest number of %d bytes: %q, %v", size, s, e)
		}
		if s, e := Put(power(size), size); s != "" || e != api.ErrRange {
			t.Errorf("the number behind the greatest of %d bytes: %q, %v", size, s, e)
		}
	}
}

func TestPutRefusesNegativeNumbers(t *testing.T) {
	for size := 1; size <= 7; size++ {
		for _, n := range []int{-1, -2, -255, -256, -257, -power(size), -power(size) - 1, math.MinInt} {
			if s, e := Put(n, size); s != "" || e != api.ErrRange {
				t.Errorf("Put(%d, %d) = %q, %v", n, size, s, e)
			}
		}
	}
}

func TestPutRefusesSizes(t *testing.T) {
	for _, size := range wrongSizes {
		for _, n := range []int{0, 1, 255, 256, -1, math.MinInt, math.MaxInt} {
			if s, e := Put(n, size); s != "" || e != api.ErrRange {
				t.Errorf("Put(%d, %d) = %q, %v", n, size, s, e)
			}
		}
	}
}

func TestGetKnownBytes(t *testing.T) {
	b := "\x02\x01\x00\xff\x80\x00\x00\x7f"
	for _, c := range []struct{ at, size, want int }{
		{0, 1, 2},
		{0, 2, 258},
		{0, 3, 258},
		{1, 2, 1},
		{2, 1, 0},
		{3, 1, 255},
		{2, 2, 0xff00},
		{4, 4, 0x7f000080},
		{0, 7, 0x000080ff000102},
		{1, 7, 0x7f000080ff0001},
		{7, 1, 127},
	} {
		if n, e := Get(b, c.at, c.size); n != c.want || e != api.OK {
			t.Errorf("Get(b, %d, %d) = %#x, %v, want %#x", c.at, c.size, n, e, c.want)
		}
	}
}

func TestGetGreatestNumbers(t *testing.T) {
	for size := 1; size <= 7; size++ {
		if n, e := Get("\x00"+strings.Repeat("\xff", size)+"\x01", 1, size); n != power(size)-1 || e != api.OK {
			t.Errorf("%d bytes 255: %d, %v", size, n, e)
		}
	}
}

func TestGetAnywhere(t *testing.T) {
	for length := range 24 {
		b := noise(length, uint32(length))
		for size := 1; size <= 7; size++ {
			for at := range length + 10 {
				want, err := 0, api.ErrSize
				if at+size <= length {
					want, err = int(binary.LittleEndian.Uint64([]byte(b[at:at+size]+"\x00\x00\x00\x00\x00\x00\x00\x00"))), api.OK
				}
				if n, e := Get(b, at, size); n != want || e != err {
					t.Errorf("Get(%d bytes, %d, %d) = %d, %v, want %d, %v", length, at, size, n, e, want, err)
				}
			}
		}
	}
}

func TestGetOneByteShort(t *testing.T) {
	for size := 1; size <= 7; size++ {
		for _, at := range []int{0, 1, 5, 39} {
			b := noise(at+size, 3)
			if _, e := Get(b, at, size); e != api.OK {
				t.Errorf("Get(%d bytes, %d, %d): %v", len(b), at, size, e)
			}
			if n, e := Get(b[:len(b)-1], at, size); n != 0 || e != api.ErrSize {
				t.Errorf("Get(%d bytes, %d, %d) = %d, %v", len(b)-1, at, size, n, e)
			}
		}
	}
}

func TestGetRefusesPlacesBehindTheEnd(t *testing.T) {
	for _, b := range []string{"", "\x01", noise(40, 4)} {
		for size := 1; size <= 7; size++ {
			for _, at := range []int{len(b), len(b) + 1, 1 << 31, 1 << 32, math.MaxInt - size, math.MaxInt - 1, math.MaxInt} {
				if n, e := Get(b, at, size); n != 0 || e != api.ErrSize {
					t.Errorf("Get(%d bytes, %d, %d) = %d, %v", len(b), at, size, n, e)
				}
			}
		}
	}
}

func TestGetRefusesNegativePlaces(t *testing.T) {
	for _, b := range []string{"", "\x01", noise(40, 5)} {
		for size := 1; size <= 7; size++ {
			for _, at := range []int{-1, -2, -size, -40, math.MinInt} {
				if n, e := Get(b, at, size); n != 0 || e != api.ErrRange {
					t.Errorf("Get(%d bytes, %d, %d) = %d, %v", len(b), at, size, n, e)
				}
			}
		}
	}
}

// TestGetNamesTheRangeFirst has wrong sizes at good places, at negative ones, and behind the end, where ErrSize would apply too.
func TestGetNamesTheRangeFirst(t *testing.T) {
	for _, b := range []string{"", "\x01", noise(40, 6)} {
		for _, size := range wrongSizes {
			for _, at := range []int{0, len(b), len(b) + 1, -1, math.MinInt, math.MaxInt} {
				if n, e := Get(b, at, size); n != 0 || e != api.ErrRange {
					t.Errorf("Get(%d bytes, %d, %d) = %d, %v", len(b), at, size, n, e)
				}
			}
		}
	}
}

func TestGetOfPut(t *testing.T) {
	for size := 1; size <= 7; size++ {
		for _, n := range numbers() {
			if n >= power(size) {
				continue
			}
			s, _ := Put(n, size)
			for at := range 12 {
				for _, behind := range []string{"", "\x00", "\xff", noise(9, 7)} {
					if m, e := Get(noise(at, 8)+s+behind, at, size); m != n || e != api.OK {
						t.Errorf("%d of %d bytes at %d comes back as %d, %v", n, size, at, m, e)
					}
				}
			}
		}
	}
}

func TestGetOfPutOfAllSmallNumbers(t *testing.T) {
	for size := 1; size <= 2; size++ {
		seen := map[string]int{}
		for n := range power(size) {
			s, e := Put(n, size)
			if other, ok := seen[s]; ok || e != api.OK {
				t.Fatalf("Put(%d, %d) = %q, %v, as for %d", n, size, s, e, other)
			}
			seen[s] = n
			if m, e := Get(s, 0, size); m != n || e != api.OK {
				t.Fatalf("%d of %d bytes comes back as %d, %v", n, size, m, e)
			}
		}
	}
}

func TestPutOfGet(t *testing.T) {
	for size := 1; size <= 7; size++ {
		for seed := range 200 {
			b := noise(size, uint32(seed))
			n, e := Get(b, 0, size)
			if s, f := Put(n, size); s != b || e != api.OK || f != api.OK {
				t.Errorf("the bytes %q: %d, %v, which is %q, %v", b, n, e, s, f)
			}
		}
	}
}

func TestEqualNumbersHaveEqualBytes(t *testing.T) {
	for size := 1; size <= 7; size++ {
		for _, n := range numbers() {
			for _, m := range numbers() {
				a, e := Put(n, size)
				b, f := Put(m, size)
				if e == api.OK && f == api.OK && (a == b) != (n == m) {
					t.Fatalf("%d bytes of %d and %d: %q and %q", size, n, m, a, b)
				}
			}
		}
	}
}

// texts are strings to pad: empty, with zeros at their ends, with bytes that are no UTF-8, and a sector.
func texts() []string {
	return []string{"", "a", "ab", "\x00", "\x00\x00\x00", "a\x00", "\xff\xfe", "h\u00e9\u2207\U0001f4be", noise(api.SectorBytes, 9)}
}

func TestPadAddsWhatIsMissing(t *testing.T) {
	for _, b := range texts() {
		for more := range 70 {
			if s := Pad(b, len(b)+more); s != b+strings.Repeat("\x00", more) {
				t.Errorf("Pad(%q, %d) = %q", b, len(b)+more, s)
			}
		}
	}
	if s := Pad("ab", 1<<20); len(s) != 1<<20 || strings.TrimRight(s, "\x00") != "ab" {
		t.Errorf("Pad to %d bytes makes %d", 1<<20, len(s))
	}
}

func TestPadCountsBytes(t *testing.T) {
	if s := Pad("\u00e9", 3); s != "\xc3\xa9\x00" {
		t.Errorf("Pad of a letter of two bytes to 3: %q", s)
	}
}

func TestPadWithNothingMissing(t *testing.T) {
	for _, b := range texts() {
		for _, n := range []int{len(b), len(b) - 1, len(b) / 2, 0, -1, -40, -len(b), math.MinInt} {
			if s := Pad(b, n); s != b {
				t.Errorf("Pad(%q, %d) = %q", b, n, s)
			}
		}
	}
}

func TestPadAgainChangesNothing(t *testing.T) {
	for _, b := range texts() {
		once := Pad(b, 50)
		if s := Pad(once, 50); s != once {
			t.Errorf("Pad of %q to 50 again: %q", b, s)
		}
	}
}

// TestPadToMoreThanMemory has lengths that are behind R7, some of which no string can have.
func TestPadToMoreThanMemory(t *testing.T) {
	for _, b := range texts() {
		for _, n := range []int{1 << 31, 1 << 40, 1 << 48, 1 << 62, math.MaxInt - 1, math.MaxInt} {
			if s := Pad(b, n); s != b {
				t.Errorf("Pad of %d bytes to %d makes %d", len(b), n, len(s))
			}
		}
	}
}
