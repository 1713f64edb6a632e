package summary

import (
	"encoding/binary"
	"hash/crc32"
	"math"
	"slices"
	"strings"
	"testing"

	"zoneappend/api"
	"zoneappend/record"
)

// text is the payload of a record of data.
const text = "0123456789abcdef"

// encoded is the sector of a record that is known to have one.
func encoded(r api.Record) string {
	s, e := record.Encode(r)
	if e != api.OK {
		panic("a record without a sector")
	}
	return s
}

// data is a sector of the kind KindData.
func data(block, version, move int) string {
	return encoded(api.Record{Kind: api.KindData, Block: block, Version: version, Move: move, Payload: text})
}

// trim is a sector of the kind KindTrim.
func trim(block, version, move int) string {
	return encoded(api.Record{Kind: api.KindTrim, Block: block, Version: version, Move: move})
}

// with is a string in which some bytes were replaced.
func with(s string, at int, b string) string { return s[:at] + b + s[at+len(b):] }

// flipped is a string with one bit changed.
func flipped(s string, bit int) string {
	return with(s, bit/8, string([]byte{s[bit/8] ^ 1<<(bit%8)}))
}

// sealed puts the standard library's checksum behind bytes.
func sealed(body string) string {
	return string(binary.LittleEndian.AppendUint32([]byte(body), crc32.ChecksumIEEE([]byte(body))))
}

// replaced is a list with another string at an index.
func replaced(l []string, i int, s string) []string {
	c := slices.Clone(l)
	c[i] = s
	return c
}

// summaryOf is what the standard library makes of strings of 40 bytes, whatever they are and how many.
func summaryOf(sectors []string) api.Record {
	var versions []int
	var bodies []byte
	for _, s := range sectors {
		versions = append(versions, int(binary.LittleEndian.Uint64([]byte(s[8:16]))<<16>>16))
		bodies = append(bodies, s[:36]...)
	}
	if len(versions) == 0 {
		versions = []int{0}
	}
	least := binary.LittleEndian.AppendUint64(nil, uint64(slices.Min(versions)))[:6]
	payload := binary.LittleEndian.AppendUint32(least, crc32.ChecksumIEEE(bodies))
	return api.Record{Kind: api.KindSummary, Block: len(sectors), Version: slices.Max(versions), Payload: string(payload)}
}

// withVersions is a list of sectors of both kinds, with various blocks and Moves, that have these versions.
func withVersions(versions ...int) []string {
	var l []string
	for i, v := range versions {
		if i%3 == 1 {
			l = append(l, trim(i*37%128, v, i%5))
		} else {
			l = append(l, data(i*53%128, v, i*29%256))
		}
	}
	return l
}

// long is a list of n sectors, with versions that follow no plain pattern.
func long(n int) []string {
	var versions []int
	for i := range n {
		versions = append(versions, 1000+i*i*7919%1009)
	}
	return withVersions(versions...)
}

// orders are versions that are equal, rise and fall, and every order of some that are not equal.
func orders() [][]int {
	l := [][]int{
		{0}, {1}, {7}, {258}, {api.MaxVersion - 1}, {api.MaxVersion},
		{0, 0}, {9, 9, 9}, {api.MaxVersion, api.MaxVersion, api.MaxVersion},
		{9, 9, 4}, {4, 9, 9}, {9, 4, 9}, {4, 4, 9}, {4, 9, 4}, {9, 4, 4},
		{1, 2, 3, 2, 1}, {3, 2, 1, 2, 3}, {2, 3, 2, 1, 2}, {2, 1, 2, 3, 2},
	}
	for _, v := range [][3]int{{0, 5, api.MaxVersion}, {3, 258, 1<<32 + 1}, {255, 256, 257}, {1, 1 << 31, 1<<40 - 1}} {
		for i := range 3 {
			for j := range 3 {
				if i != j {
					l = append(l, []int{v[i], v[j], v[3-i-j]})
				}
			}
		}
		l = append(l, v[:2], []int{v[1], v[0]}, []int{v[0], v[2]}, []int{v[2], v[0]})
	}
	return append(l, manyVersions()...)
}

// manyVersions are versions of a list of MaxSize that rise, fall, or have the greatest or the least at each index.
func manyVersions() [][]int {
	rise, fall := make([]int, api.MaxSize), make([]int, api.MaxSize)
	for i := range api.MaxSize {
		rise[i], fall[i] = 100+i, 100-i
	}
	l := [][]int{rise, fall, slices.Repeat([]int{0}, api.MaxSize), slices.Repeat([]int{api.MaxVersion}, api.MaxSize)}
	for i := range api.MaxSize {
		for _, v := range []int{6, 8, 0, api.MaxVersion} {
			one := slices.Repeat([]int{7}, api.MaxSize)
			one[i] = v
			l = append(l, one)
		}
	}
	return l
}

// good are lists that have a summary: one of each length, and others.
func good() [][]string {
	l := [][]string{
		{data(0, 7, 0)}, {trim(0, 7, 0)},
		{data(1<<32-1, api.MaxVersion, api.MaxMove)}, {trim(1<<32-1, api.MaxVersion, api.MaxMove)},
		slices.Repeat([]string{data(0, 0, 0)}, api.MaxSize), slices.Repeat([]string{trim(0, 0, 0)}, api.MaxSize),
	}
	for n := range api.MaxSize {
		l = append(l, long(n+1))
	}
	for _, versions := range orders() {
		l = append(l, withVersions(versions...))
	}
	return l
}

// bad is a string that may not be before a summary.
type bad struct {
	name, sector string
	want         api.Errno
}

// bads are such strings, of all sorts.
func bads() []bad {
	d := data(5, 7, 1)
	l := []bad{
		{"no byte", "", api.ErrSize},
		{"one byte", "Z", api.ErrSize},
		{"a byte too short", d[:39], api.ErrSize},
		{"without its first byte", d[1:], api.ErrSize},
		{"a byte too long", d + "\x00", api.ErrSize},
		{"two sectors", d + d, api.ErrSize},
		{"a byte too short, with a right checksum", sealed(d[:35]), api.ErrSize},
		{"a byte too long, with a right checksum", sealed(d[:36] + "\x00"), api.ErrSize},
		{"a changed bit", flipped(d, 100), api.ErrSum},
		{"a changed bit of the checksum", flipped(d, 319), api.ErrSum},
		{"another version", with(d, 8, "\x08"), api.ErrSum},
		{"zeros", strings.Repeat("\x00", 40), api.ErrSum},
		{"a head with a changed bit", flipped(encoded(api.Record{Kind: api.KindHead}), 30), api.ErrSum},
		{"another mark", sealed(with(d[:36], 0, "AZ")), api.ErrForm},
		{"the kind 0", sealed(with(d[:36], 2, "\x00")), api.ErrForm},
		{"the kind 7", sealed(with(d[:36], 2, "\x07")), api.ErrForm},
		{"data without a payload", sealed(with(d[:36], 3, "\x00")), api.ErrForm},
		{"a trim with a payload", sealed(with(d[:36], 2, "\x02")), api.ErrForm},
		{"a version that is too great", sealed(with(d[:36], 8, "\x01\x00\x00\x00\x00\x01")), api.ErrForm},
		{"a spare byte", sealed(with(d[:36], 15, "\x01")), api.ErrForm},
		{"a byte behind the payload", sealed(with(d[:36], 35, "\x01")), api.ErrForm},
	}
	for kind := api.KindSummary; kind <= api.KindFoot; kind++ {
		l = append(l,
			bad{"another kind", encoded(api.Record{Kind: kind, Block: 5, Version: 7}), api.ErrForm},
			bad{"another kind with a payload", encoded(api.Record{Kind: kind, Block: 5, Version: 7, Payload: text}), api.ErrForm},
		)
	}
	return append(l, bad{"a summary", encoded(summaryOf(long(3))), api.ErrForm})
}

// made expects a summary of a list.
func made(t *testing.T, l []string) api.Record {
	t.Helper()
	want := summaryOf(l)
	r, e := Make(l)
	if r != want || e != api.OK {
		t.Fatalf("Make(%q) = %#v, %v, want %#v", l, r, e, want)
	}
	return want
}

// refuse expects of a list an error, and that no record is its summary.
func refuse(t *testing.T, name string, l []string, want api.Errno, others ...api.Record) {
	t.Helper()
	if r, e := Make(l); r != (api.Record{}) || e != want {
		t.Fatalf("%s, of %d: Make = %#v, %v, want %v", name, len(l), r, e, want)
	}
	for _, r := range append(others, api.Record{}) {
		if Verify(r, l) {
			t.Fatalf("%s, of %d: %#v is its summary", name, len(l), r)
		}
	}
}

// places are the first index of a list, one in the middle, and the last one.
func places(l []string) []int {
	return slices.Compact([]int{0, (len(l) - 1) / 2, len(l) - 1})
}

func TestMakeKnownSummaries(t *testing.T) {
	for _, c := range []struct {
		sectors []string
		want    api.Record
	}{
		{
			[]string{trim(3, 7, 0)},
			api.Record{Kind: api.KindSummary, Block: 1, Version: 7, Payload: "\x07\x00\x00\x00\x00\x00\x1b\x12\x34\x96"},
		},
		{
			[]string{data(258, 0x0504030201, 3)},
			api.Record{Kind: api.KindSummary, Block: 1, Version: 0x0504030201, Payload: "\x01\x02\x03\x04\x05\x00\x51\x5d\x65\x48"},
		},
		{
			[]string{data(0, 7, 0), trim(5, 3, 1), data(1<<32-1, 258, 255)},
			api.Record{Kind: api.KindSummary, Block: 3, Version: 258, Payload: "\x03\x00\x00\x00\x00\x00\x08\xe4\xd1\x58"},
		},
		{
			[]string{trim(0, 0, 0), data(127, 1<<40, 9)},
			api.Record{Kind: api.KindSummary, Block: 2, Version: 1 << 40, Payload: "\x00\x00\x00\x00\x00\x00\x12\xa8\x0f\xe7"},
		},
		{
			slices.Repeat([]string{trim(0, 1<<40, 0)}, 64),
			api.Record{Kind: api.KindSummary, Block: 64, Version: 1 << 40, Payload: "\x00\x00\x00\x00\x00\x01\x98\x09\x9b\x22"},
		},
	} {
		if r, e := Make(c.sectors); r != c.want || e != api.OK {
			t.Errorf("Make of %d sectors = %#v, %v, want %#v", len(c.sectors), r, e, c.want)
		}
		if !Verify(c.want, c.sectors) {
			t.Errorf("%#v is not the summary of its %d sectors", c.want, len(c.sectors))
		}
	}
}

func TestMakeAndVerify(t *testing.T) {
	for _, l := range good() {
		if r := made(t, l); !Verify(r, l) {
			t.Fatalf("%#v is not the summary of its %d sectors", r, len(l))
		}
	}
}

func TestLeastAndGreatestVersion(t *testing.T) {
	for _, versions := range orders() {
		r, e := Make(withVersions(versions...))
		if e != api.OK || r.Version != slices.Max(versions) {
			t.Fatalf("the versions %v: Version %d, %v", versions, r.Version, e)
		}
		for i, b := range []byte(r.Payload[:6]) {
			if b != byte(slices.Min(versions)>>(8*i)) {
				t.Fatalf("the versions %v: the byte %d of the least one is %d", versions, i, b)
			}
		}
	}
}

func TestNumbersOfThePayload(t *testing.T) {
	for _, l := range good() {
		r, _ := Make(l)
		if len(r.Payload) != 10 {
			t.Fatalf("a payload of %d bytes", len(r.Payload))
		}
		var bodies []byte
		for _, s := range l {
			bodies = append(bodies, s[:36]...)
		}
		sum := crc32.ChecksumIEEE(bodies)
		for i, b := range []byte(r.Payload[6:]) {
			if b != byte(sum>>(8*i)) {
				t.Fatalf("%d sectors: the byte %d of the sum is %d, of %08x", len(l), i, b, sum)
			}
		}
	}
}

func TestSummariesAreRecords(t *testing.T) {
	for _, l := range good() {
		r := made(t, l)
		s, e := record.Encode(r)
		if again, f := record.Decode(s); again != r || e != api.OK || f != api.OK {
			t.Fatalf("%#v: %v, and comes back as %#v, %v", r, e, again, f)
		}
	}
}

func TestNoSectors(t *testing.T) {
	for _, l := range [][]string{nil, {}, long(3)[:0], make([]string, 0, 9)} {
		refuse(t, "none", l, api.ErrLimit, summaryOf(nil), api.Record{Kind: api.KindSummary, Payload: strings.Repeat("\x00", 10)},
			api.Record{Kind: api.KindSummary, Payload: "\x00\x00\x00\x00\x00\x01\x00\x00\x00\x00"}, api.Record{Kind: api.KindSummary})
	}
}

func TestTooManySectors(t *testing.T) {
	made(t, long(api.MaxSize))
	for _, n := range []int{api.MaxSize + 1, api.MaxSize + 2, 2 * api.MaxSize, 256, 257} {
		l := long(n)
		refuse(t, "too many", l, api.ErrLimit, summaryOf(l), summaryOf(l[:api.MaxSize]), summaryOf(l[n-api.MaxSize:]))
	}
}

func TestTooManySectorsOfWhichOneIsWrong(t *testing.T) {
	l := long(api.MaxSize + 1)
	for _, b := range bads() {
		for i := range l {
			refuse(t, b.name, replaced(l, i, b.sector), api.ErrLimit)
		}
		refuse(t, b.name, slices.Repeat([]string{b.sector}, len(l)), api.ErrLimit)
	}
}

func TestOneWrongSector(t *testing.T) {
	for _, n := range []int{1, 2, 3, api.MaxSize - 1, api.MaxSize} {
		l := long(n)
		for _, b := range bads() {
			for i := range l {
				spoiled := replaced(l, i, b.sector)
				others := []api.Record{summaryOf(l), summaryOf(slices.Delete(slices.Clone(l), i, i+1))}
				if len(b.sector) == 40 {
					others = append(others, summaryOf(spoiled))
				}
				refuse(t, b.name, spoiled, b.want, others...)
			}
		}
	}
}

func TestOneChangedBit(t *testing.T) {
	for _, l := range [][]string{{data(5, 7, 1)}, {trim(0, 0, 0)}, long(3), long(api.MaxSize)} {
		for _, i := range places(l) {
			for bit := range 320 {
				spoiled := replaced(l, i, flipped(l[i], bit))
				refuse(t, "a changed bit", spoiled, api.ErrSum, summaryOf(l), summaryOf(spoiled))
			}
		}
	}
}

// TestTheFirstWrongSectorIsNamed has each two wrong sectors in both orders, one behind the other and apart.
func TestTheFirstWrongSectorIsNamed(t *testing.T) {
	l := long(api.MaxSize)
	for _, a := range bads() {
		for _, b := range bads() {
			name := a.name + ", then " + b.name
			refuse(t, name, []string{a.sector, b.sector}, a.want)
			refuse(t, name, []string{l[0], a.sector, b.sector}, a.want)
			refuse(t, name, []string{a.sector, l[0], b.sector}, a.want)
			refuse(t, name, []string{l[0], a.sector, l[1], b.sector, l[2]}, a.want)
			refuse(t, name, replaced(replaced(l, 31, a.sector), 63, b.sector), a.want)
		}
	}
}

// TestVerifyOneFieldAlone has records that differ from the summary in one field at the most.
func TestVerifyOneFieldAlone(t *testing.T) {
	for _, l := range [][]string{{data(0, 0, 0)}, {trim(3, 7, 0)}, {data(1, api.MaxVersion, 2)}, long(3), long(api.MaxSize)} {
		r := made(t, l)
		for _, x := range []int{r.Kind, r.Block, r.Version, r.Move, 0, 1, 2, 3, 4, 5, 6, 7, 64, 255, 258, math.MinInt, math.MaxInt} {
			for _, n := range []int{x, x + 1, x - 1, -x, x + 1<<8, x + 1<<32, x + 1<<40} {
				verify(t, api.Record{Kind: n, Block: r.Block, Version: r.Version, Move: r.Move, Payload: r.Payload}, l, n == r.Kind)
				verify(t, api.Record{Kind: r.Kind, Block: n, Version: r.Version, Move: r.Move, Payload: r.Payload}, l, n == r.Block)
				verify(t, api.Record{Kind: r.Kind, Block: r.Block, Version: n, Move: r.Move, Payload: r.Payload}, l, n == r.Version)
				verify(t, api.Record{Kind: r.Kind, Block: r.Block, Version: r.Version, Move: n, Payload: r.Payload}, l, n == r.Move)
			}
		}
		for _, payload := range otherPayloads(r.Payload) {
			verify(t, api.Record{Kind: r.Kind, Block: r.Block, Version: r.Version, Payload: payload}, l, payload == r.Payload)
		}
		verify(t, api.Record{}, l, false)
	}
}

// verify expects an answer of Verify.
func verify(t *testing.T, r api.Record, l []string, want bool) {
	t.Helper()
	if Verify(r, l) != want {
		t.Errorf("Verify(%#v, %d sectors) is not %v", r, len(l), want)
	}
}

// otherPayloads are payloads with one bit changed, shorter ones, longer ones, and ones in another order.
func otherPayloads(p string) []string {
	l := []string{p, p + "\x00", "\x00" + p, p + p, p[6:] + p[:6], p[:6] + "\x00\x00\x00\x00", "\x00\x00\x00\x00\x00\x00" + p[6:]}
	for n := range len(p) {
		l = append(l, p[:n], p[n:])
	}
	for bit := range 8 * len(p) {
		l = append(l, flipped(p, bit))
	}
	b := []byte(p)
	slices.Reverse(b)
	return append(l, string(b))
}

func TestVerifyOtherLengths(t *testing.T) {
	lists := [][]string{
		long(api.MaxSize),
		withVersions(slices.Repeat([]int{7}, api.MaxSize)...),
		slices.Repeat([]string{data(0, 0, 0)}, api.MaxSize),
		slices.Repeat([]string{trim(0, 0, 0)}, api.MaxSize),
	}
	for _, l := range lists {
		for n := range l {
			r := made(t, l[:n+1])
			for m := range len(l) + 1 {
				verify(t, r, l[:m], m == n+1)
			}
			verify(t, r, append(slices.Clone(l), l...), false)
		}
	}
}

func TestVerifyAnotherBlock(t *testing.T) {
	for _, l := range [][]string{{data(0, 0, 0)}, {trim(3, 7, 0)}, {data(1<<32-1, api.MaxVersion, 255)}, long(3), long(api.MaxSize)} {
		r := made(t, l)
		for i, s := range l {
			own, _ := record.Decode(s)
			for _, block := range otherBlocks(own.Block) {
				other := own
				other.Block = block
				verify(t, r, replaced(l, i, encoded(other)), block == own.Block)
			}
		}
	}
}

// otherBlocks are a block, its neighbours, and others that differ from it in one bit or more.
func otherBlocks(block int) []int {
	const greatest = 1<<32 - 1
	l := []int{block, 0, 1, api.MaxBlocks - 1, api.MaxBlocks, greatest, greatest - block, (block + 1) & greatest, (block - 1) & greatest}
	for bit := range 32 {
		l = append(l, block^1<<bit)
	}
	return l
}

// TestVerifyAnotherList has lists of the same length and blocks, with another order, kind, version, Move or payload.
func TestVerifyAnotherList(t *testing.T) {
	l := []string{data(0, 7, 0), data(1, 7, 0), trim(2, 7, 0), data(3, 7, 0)}
	r := made(t, l)
	for _, other := range [][]string{
		{l[1], l[0], l[2], l[3]},
		{l[0], l[1], l[3], l[2]},
		{l[3], l[2], l[1], l[0]},
		replaced(l, 0, trim(0, 7, 0)),
		replaced(l, 2, data(2, 7, 0)),
		replaced(l, 1, data(1, 6, 0)),
		replaced(l, 1, data(1, 8, 0)),
		replaced(l, 3, data(3, 7, 1)),
		replaced(l, 3, encoded(api.Record{Kind: api.KindData, Block: 3, Version: 7, Payload: "0123456789abcdeF"})),
	} {
		verify(t, made(t, other), other, true)
		verify(t, r, other, false)
	}
}

func TestArgumentsAndResultsStay(t *testing.T) {
	for _, l := range [][]string{long(5), replaced(long(5), 3, "x")} {
		before := slices.Clone(l)
		r, e := Make(l[:5:5])
		for _, other := range good() {
			Verify(made(t, other), other)
		}
		if again, f := Make(l); again != r || f != e || Verify(r, l) != (e == api.OK) {
			t.Errorf("%#v, %v, and later %#v, %v", r, e, again, f)
		}
		if !slices.Equal(l, before) {
			t.Error("the sectors were changed")
		}
	}
}
