package crc

import (
	"hash/crc32"
	"strings"
	"testing"
)

// addByBits is P1.1 word by word, without a table.
func addByBits(sum uint32, b string) uint32 {
	x := ^sum
	for i := range len(b) {
		x ^= uint32(b[i])
		for range 8 {
			if x&1 == 1 {
				x = x>>1 ^ 0xedb88320
			} else {
				x >>= 1
			}
		}
	}
	return ^x
}

// noise returns n bytes that follow no plain pattern, the same ones for each seed.
func noise(n int, seed uint32) string {
	b := make([]byte, n)
	for i := range b {
		seed = seed*1664525 + 1013904223
		b[i] = byte(seed >> 24)
	}
	return string(b)
}

// samples are strings of all kinds: empty, short, long, of zeros, of ones, of text and of all bytes.
func samples() []string {
	all := make([]byte, 256)
	for i := range all {
		all[i] = byte(i)
	}
	l := []string{"", "a", "123456789", "\x00", "\xff", "h\u00e9\u2207\U0001f4be", "\xc3\x28 no UTF-8 \xfe", string(all),
		strings.Repeat("\x00", 40), strings.Repeat("\xff", 40), noise(1<<16, 1)}
	for n := range 50 {
		l = append(l, noise(n, uint32(n)))
	}
	return l
}

// starts are sums that a checksum may be continued from.
func starts() []uint32 {
	l := []uint32{0, 1, 7, 0x80000000, 0xedb88320, 0xfffffffe, 0xffffffff}
	for bit := range 32 {
		l = append(l, 1<<bit)
	}
	return l
}

// flip returns b with some of 32 consecutive bits changed, from the bit at on, as the sum takes them: lowest first.
func flip(b string, at int, pattern uint32) string {
	c := []byte(b)
	for i := range 32 {
		if pattern>>i&1 == 1 {
			c[(at+i)/8] ^= 1 << ((at + i) % 8)
		}
	}
	return string(c)
}

func TestSumOfKnownStrings(t *testing.T) {
	for b, want := range map[string]uint32{
		"":                         0,
		"123456789":                0xcbf43926,
		"a":                        0xe8b7be43,
		"abc":                      0x352441c2,
		"\x00":                     0xd202ef8d,
		"\xff":                     0xff000000,
		"\x00\x00\x00\x00":         0x2144df1c,
		"\xff\xff\xff\xff":         0xffffffff,
		strings.Repeat("\x00", 32): 0x190a55ad,
		strings.Repeat("\xff", 32): 0xff6cab0b,
	} {
		if n := Sum(b); n != want {
			t.Errorf("Sum(%q) = %08x, want %08x", b, n, want)
		}
	}
}

func TestSumOfEachByte(t *testing.T) {
	for n := range 256 {
		b := string([]byte{byte(n)})
		if got, want := Sum(b), addByBits(0, b); got != want {
			t.Errorf("Sum(%q) = %08x, want %08x", b, got, want)
		}
	}
}

func TestAddTakesBitsOneByOne(t *testing.T) {
	for _, b := range samples() {
		for _, s := range starts() {
			if got, want := Add(s, b), addByBits(s, b); got != want {
				t.Fatalf("Add(%08x, %d bytes) = %08x, want %08x", s, len(b), got, want)
			}
		}
	}
}

func TestAddIsThatOfEthernet(t *testing.T) {
	for _, b := range samples() {
		for _, s := range starts() {
			if got, want := Add(s, b), crc32.Update(s, crc32.IEEETable, []byte(b)); got != want {
				t.Fatalf("Add(%08x, %d bytes) = %08x, want %08x", s, len(b), got, want)
			}
		}
	}
}

func TestSumIsAddFromZero(t *testing.T) {
	for _, b := range samples() {
		if got, want := Sum(b), Add(0, b); got != want {
			t.Errorf("Sum of %d bytes = %08x, want %08x", len(b), got, want)
		}
	}
}

func TestNothingAdded(t *testing.T) {
	for _, s := range starts() {
		if n := Add(s, ""); n != s {
			t.Errorf("Add(%08x, \"\") = %08x", s, n)
		}
	}
}

func TestSumContinuedAnywhere(t *testing.T) {
	b := noise(90, 5)
	for _, s := range starts() {
		want := Add(s, b)
		for i := range len(b) + 1 {
			if n := Add(Add(s, b[:i]), b[i:]); n != want {
				t.Fatalf("from %08x, divided at %d: %08x, want %08x", s, i, n, want)
			}
		}
	}
}

func TestSumContinuedInThreeParts(t *testing.T) {
	b := noise(40, 6)
	want := Sum(b)
	for i := range len(b) + 1 {
		for j := i; j <= len(b); j++ {
			if n := Add(Add(Sum(b[:i]), b[i:j]), b[j:]); n != want {
				t.Fatalf("divided at %d and %d: %08x, want %08x", i, j, n, want)
			}
		}
	}
}

func TestOneBitChangesTheSum(t *testing.T) {
	for _, b := range []string{"\x00", "123456789", strings.Repeat("\x00", 40), noise(40, 7), noise(1000, 8)} {
		sum := Sum(b)
		for at := range 8 * len(b) {
			if Sum(flip(b, at, 1)) == sum {
				t.Errorf("%d bytes: the same sum with bit %d changed", len(b), at)
			}
		}
	}
}

func TestBitsWithin32ChangeTheSum(t *testing.T) {
	patterns := []uint32{0xffffffff, 0xedb88320, 0x04c11db7, 0x80000001, 0xaaaaaaaa, 0x55555555}
	for i := range 32 {
		for j := range i + 1 {
			patterns = append(patterns, 1<<i|1<<j)
		}
	}
	b := noise(40, 9)
	sum := Sum(b)
	for at := range 8*len(b) - 31 {
		for _, p := range patterns {
			if Sum(flip(b, at, p)) == sum {
				t.Errorf("the same sum with the bits %08x changed from bit %d on", p, at)
			}
		}
	}
}

func TestOrderAndLengthCount(t *testing.T) {
	if Sum("ab") == Sum("ba") {
		t.Error("the same sum in another order")
	}
	seen := map[uint32]int{}
	for n := range 100 {
		sum := Sum(strings.Repeat("\x00", n))
		if m, ok := seen[sum]; ok {
			t.Errorf("%d and %d zeros have the same sum", m, n)
		}
		seen[sum] = n
	}
}

func TestResultsDependOnArgumentsAlone(t *testing.T) {
	b := noise(40, 10)
	sum, continued := Sum(b), Add(99, b)
	for _, other := range samples() {
		Add(Sum(other), other)
		if Sum(b) != sum || Add(99, b) != continued {
			t.Fatalf("another result after a call with %d bytes", len(other))
		}
	}
}
