package record

import (
	"encoding/binary"
	"hash/crc32"
	"iter"
	"math"
	"math/rand/v2"
	"strings"
	"testing"

	"zoneappend/api"
)

// letters has one byte more than a payload may have.
const letters = "0123456789abcdefghijk"

// value is a number, and whether a record may have it.
type value struct {
	n  int
	ok bool
}

var kinds = []value{
	{api.KindData, true}, {api.KindTrim, true}, {api.KindSummary, true}, {api.KindHead, true}, {api.KindEntry, true}, {api.KindFoot, true},
	{0, false}, {7, false}, {-1, false}, {257, false}, {-255, false}, {math.MinInt, false}, {math.MaxInt, false},
}

var blocks = []value{
	{0, true}, {1, true}, {128, true}, {1<<32 - 2, true}, {1<<32 - 1, true},
	{-1, false}, {1 << 32, false}, {1<<32 + 1, false}, {-1 << 32, false}, {math.MinInt, false}, {math.MaxInt, false},
}

var versions = []value{
	{0, true}, {1, true}, {1<<32 + 5, true}, {1<<40 - 1, true}, {1 << 40, true},
	{-1, false}, {1<<40 + 1, false}, {1 << 48, false}, {-1 << 48, false}, {math.MinInt, false}, {math.MaxInt, false},
}

var moves = []value{
	{0, true}, {1, true}, {128, true}, {254, true}, {255, true},
	{-1, false}, {256, false}, {257, false}, {-256, false}, {math.MinInt, false}, {math.MaxInt, false},
}

// payloads are one of each length from 0 to 21, and others.
func payloads() []string {
	l := []string{
		strings.Repeat("\x00", 16), strings.Repeat("\x00", 20), strings.Repeat("\xff", 16), "ab\x00", "\x00ab",
		strings.Repeat("x", 256), strings.Repeat("x", 256+16), strings.Repeat("x", 1<<12),
	}
	for n := range len(letters) + 1 {
		l = append(l, letters[:n])
	}
	return l
}

// errorOf is the error of a record of such numbers.
func errorOf(kind, block, version, move value, payload string) api.Errno {
	n := len(payload)
	switch {
	case !kind.ok:
		return api.ErrForm
	case !block.ok || !version.ok || !move.ok:
		return api.ErrRange
	case kind.n == api.KindData && n == 16, kind.n == api.KindTrim && n == 0, kind.n > api.KindTrim && n <= 20:
		return api.OK
	}
	return api.ErrSize
}

// candidates are records of all kinds, numbers and payloads, with their errors.
func candidates() iter.Seq2[api.Record, api.Errno] {
	texts := payloads()
	return func(yield func(api.Record, api.Errno) bool) {
		for i := range len(kinds) * len(blocks) * len(versions) * len(moves) {
			kind, i := kinds[i%len(kinds)], i/len(kinds)
			block, i := blocks[i%len(blocks)], i/len(blocks)
			version, i := versions[i%len(versions)], i/len(versions)
			move := moves[i]
			for _, payload := range texts {
				r := api.Record{Kind: kind.n, Block: block.n, Version: version.n, Move: move.n, Payload: payload}
				if !yield(r, errorOf(kind, block, version, move, payload)) {
					return
				}
			}
		}
	}
}

// samples are a record or two of each kind, with the least and the greatest numbers among them.
func samples() []api.Record {
	return []api.Record{
		{Kind: api.KindData, Block: 258, Version: 7, Move: 3, Payload: letters[:16]},
		{Kind: api.KindData, Payload: strings.Repeat("\x00", 16)},
		{Kind: api.KindData, Block: 1<<32 - 1, Version: api.MaxVersion, Move: api.MaxMove, Payload: strings.Repeat("\xff", 16)},
		{Kind: api.KindTrim, Block: 3, Version: 7},
		{Kind: api.KindTrim, Block: 1<<32 - 1, Version: api.MaxVersion, Move: api.MaxMove},
		{Kind: api.KindSummary, Block: 5, Version: 0x9080706050, Payload: letters[:10]},
		{Kind: api.KindHead, Block: 0x04030201, Version: 1, Payload: letters[:12]},
		{Kind: api.KindHead},
		{Kind: api.KindEntry, Block: 127, Version: 9, Move: 2, Payload: letters[:4]},
		{Kind: api.KindFoot, Payload: letters[:20]},
	}
}

// sealed puts the standard library's checksum behind bytes.
func sealed(body string) string {
	return string(binary.LittleEndian.AppendUint32([]byte(body), crc32.ChecksumIEEE([]byte(body))))
}

// bodyOf is what the standard library makes of a record, without the checksum.
func bodyOf(r api.Record) string {
	b := []byte{'Z', 'A', byte(r.Kind), byte(len(r.Payload))}
	b = binary.LittleEndian.AppendUint32(b, uint32(r.Block))
	b = binary.LittleEndian.AppendUint64(b, uint64(r.Version)|uint64(r.Move)<<48)
	return string(b) + r.Payload + strings.Repeat("\x00", 20-len(r.Payload))
}

// recordIn is what the standard library reads in the bytes before a checksum, and whether they are those of a record.
func recordIn(body string) (api.Record, bool) {
	numbers := binary.LittleEndian.Uint64([]byte(body[8:16]))
	r := api.Record{Kind: int(body[2]), Block: int(binary.LittleEndian.Uint32([]byte(body[4:8]))), Version: int(numbers << 16 >> 16), Move: int(body[14])}
	n := int(body[3])
	if body[:2] != "ZA" || r.Kind < 1 || r.Kind > 6 || n > 20 || r.Version > 1<<40 || body[15] != 0 {
		return api.Record{}, false
	}
	if r.Kind == api.KindData && n != 16 || r.Kind == api.KindTrim && n != 0 || strings.Trim(body[16+n:36], "\x00") != "" {
		return api.Record{}, false
	}
	r.Payload = body[16 : 16+n]
	return r, true
}

// with is a string in which some bytes were replaced.
func with(s string, at int, b string) string { return s[:at] + b + s[at+len(b):] }

// refuse expects of a sector an error, and no record beside it.
func refuse(t *testing.T, sector string, want api.Errno) {
	t.Helper()
	if r, e := Decode(sector); e != want || r != (api.Record{}) {
		t.Errorf("Decode(%q) = %#v, %v, want %v", sector, r, e, want)
	}
}

// decode expects of a sector with a right checksum what the standard library reads in it.
func decode(t *testing.T, body string) {
	t.Helper()
	want, ok := recordIn(body)
	if !ok {
		refuse(t, sealed(body), api.ErrForm)
		return
	}
	if r, e := Decode(sealed(body)); r != want || e != api.OK {
		t.Errorf("Decode of %q = %#v, %v, want %#v", body, r, e, want)
	}
	if s, e := Encode(want); s != sealed(body) || e != api.OK {
		t.Errorf("Encode(%#v) = %q, %v, want %q", want, s, e, sealed(body))
	}
}

func TestCheckAndEncode(t *testing.T) {
	for r, want := range candidates() {
		if e := Check(r); e != want {
			t.Fatalf("Check(%#v) = %v, want %v", r, e, want)
		}
		sector := ""
		if want == api.OK {
			sector = sealed(bodyOf(r))
		}
		if s, e := Encode(r); s != sector || e != want {
			t.Fatalf("Encode(%#v) = %q, %v, want %q, %v", r, s, e, sector, want)
		}
	}
}

func TestCheckOfTheZeroRecord(t *testing.T) {
	if e := Check(api.Record{}); e != api.ErrForm {
		t.Errorf("Check of the zero record: %v", e)
	}
}

func TestEncodeKnownSectors(t *testing.T) {
	for _, c := range []struct {
		record api.Record
		want   string
	}{
		{
			api.Record{Kind: api.KindTrim, Block: 3, Version: 7},
			"\x5a\x41\x02\x00\x03\x00\x00\x00\x07" + strings.Repeat("\x00", 27),
		},
		{
			api.Record{Kind: api.KindData, Block: 0x01020304, Version: 0x0506070809, Move: 10, Payload: letters[:16]},
			"ZA\x01\x10\x04\x03\x02\x01\x09\x08\x07\x06\x05\x00\x0a\x000123456789abcdef\x00\x00\x00\x00",
		},
		{
			api.Record{Kind: api.KindFoot, Block: 1<<32 - 1, Version: 1 << 40, Move: 255, Payload: letters[:20]},
			"ZA\x06\x14\xff\xff\xff\xff\x00\x00\x00\x00\x00\x01\xff\x000123456789abcdefghij",
		},
	} {
		if s, e := Encode(c.record); s != sealed(c.want) || len(s) != 40 || e != api.OK {
			t.Errorf("Encode(%#v) = %q, %v", c.record, s, e)
		}
	}
}

func TestDecodeOfEncode(t *testing.T) {
	for r, e := range candidates() {
		if e != api.OK {
			continue
		}
		s, _ := Encode(r)
		if again, e := Decode(s); again != r || e != api.OK {
			t.Fatalf("%#v comes back as %#v, %v", r, again, e)
		}
	}
}

func TestDifferentRecordsHaveDifferentSectors(t *testing.T) {
	seen := map[string]api.Record{}
	for r, e := range candidates() {
		if e != api.OK {
			continue
		}
		s, _ := Encode(r)
		if other, ok := seen[s]; ok {
			t.Fatalf("%#v has the sector of %#v", r, other)
		}
		seen[s] = r
	}
	if len(seen) < 10000 {
		t.Errorf("only %d records", len(seen))
	}
}

func TestDecodeRefusesOneBitMore(t *testing.T) {
	for _, r := range samples() {
		s, _ := Encode(r)
		for bit := range 8 * len(s) {
			refuse(t, with(s, bit/8, string([]byte{s[bit/8] ^ 1<<(bit%8)})), api.ErrSum)
		}
	}
}

func TestDecodeRefusesSizes(t *testing.T) {
	for _, r := range samples() {
		s, _ := Encode(r)
		for n := range 40 {
			refuse(t, s[:n], api.ErrSize)
			refuse(t, s[40-n:], api.ErrSize)
			refuse(t, s+s[:n+1], api.ErrSize)
			refuse(t, s+strings.Repeat("\x00", n+1), api.ErrSize)
		}
		refuse(t, strings.Repeat(s, 1<<10), api.ErrSize)
	}
}

// TestDecodeRefusesSizesBeforeSums has strings with their right checksums behind them.
func TestDecodeRefusesSizesBeforeSums(t *testing.T) {
	for _, r := range samples() {
		for n := range 36 {
			refuse(t, sealed(bodyOf(r)[:n]), api.ErrSize)
			refuse(t, sealed(bodyOf(r)+strings.Repeat("\x00", n+1)), api.ErrSize)
		}
	}
}

func TestDecodeRefusesSums(t *testing.T) {
	for _, r := range samples() {
		body := bodyOf(r)
		sum := crc32.ChecksumIEEE([]byte(body))
		for _, wrong := range []uint32{^sum, sum + 1, sum - 1, sum << 8, sum >> 8, crc32.ChecksumIEEE([]byte(body[:35])), crc32.ChecksumIEEE([]byte(body[1:]))} {
			refuse(t, string(binary.LittleEndian.AppendUint32([]byte(body), wrong)), api.ErrSum)
		}
		refuse(t, string(binary.BigEndian.AppendUint32([]byte(body), sum)), api.ErrSum)
	}
	for _, b := range []string{"\x00", "\xff", "Z"} {
		refuse(t, strings.Repeat(b, 40), api.ErrSum)
	}
}

// TestDecodeRefusesSumsBeforeForms has sectors that no record has, with their right checksums and with wrong ones.
func TestDecodeRefusesSumsBeforeForms(t *testing.T) {
	body := bodyOf(samples()[0])
	for _, wrong := range []string{with(body, 0, "AZ"), with(body, 2, "\x00"), with(body, 2, "\x07"), with(body, 3, "\x15"), with(body, 13, "\x02"), with(body, 15, "\x01"), with(body, 35, "\x01")} {
		refuse(t, sealed(wrong), api.ErrForm)
		refuse(t, wrong+sealed(body)[36:], api.ErrSum)
	}
}

// TestDecodeEachByte replaces each byte before the checksum by each other one: some are bytes of other records.
func TestDecodeEachByte(t *testing.T) {
	for _, r := range samples() {
		body := bodyOf(r)
		for at := range len(body) {
			for b := range 256 {
				decode(t, with(body, at, string([]byte{byte(b)})))
			}
		}
	}
}

func TestDecodeEachKindAndLength(t *testing.T) {
	for _, payload := range payloads() {
		if len(payload) > 20 {
			continue
		}
		body := bodyOf(api.Record{Kind: api.KindEntry, Payload: payload})
		for kind := range 10 {
			for length := range 256 {
				decode(t, with(body, 2, string([]byte{byte(kind), byte(length)})))
			}
		}
	}
}

func TestDecodeBytesBehindThePayload(t *testing.T) {
	for _, r := range samples() {
		body := bodyOf(r)
		for at := 16 + len(r.Payload); at < 36; at++ {
			for _, b := range []string{"\x01", "\x80", "\xff"} {
				refuse(t, sealed(with(body, at, b)), api.ErrForm)
			}
		}
	}
}

func TestDecodeVersions(t *testing.T) {
	for _, r := range samples() {
		for _, c := range []struct {
			bytes string
			want  int
		}{
			{"\x00\x00\x00\x00\x00\x00", 0},
			{"\xff\xff\xff\xff\xff\x00", 1<<40 - 1},
			{"\x00\x00\x00\x00\x00\x01", 1 << 40},
			{"\x01\x00\x00\x00\x00\x01", -1},
			{"\x00\x00\x00\x00\x01\x01", -1},
			{"\x00\x00\x00\x00\x00\x02", -1},
			{"\x00\x00\x00\x00\x00\x80", -1},
			{"\xff\xff\xff\xff\xff\xff", -1},
		} {
			sector := sealed(with(bodyOf(r), 8, c.bytes))
			if c.want < 0 {
				refuse(t, sector, api.ErrForm)
				continue
			}
			r.Version = c.want
			if again, e := Decode(sector); again != r || e != api.OK {
				t.Errorf("Decode(%q) = %#v, %v, want %#v", sector, again, e, r)
			}
		}
	}
}

// TestDecodeAnyBytes has sectors of any bytes, of which more and more are those of records.
func TestDecodeAnyBytes(t *testing.T) {
	random := rand.New(rand.NewPCG(3, 40))
	for range 20000 {
		b := make([]byte, 36)
		for i := range b {
			b[i] = byte(random.Uint32())
		}
		body := string(b)
		decode(t, body)
		for _, part := range []struct {
			at    int
			bytes string
		}{{0, "ZA"}, {15, "\x00"}, {13, "\x00"}, {2, string([]byte{byte(1 + random.IntN(6))})}, {3, "\x14"}} {
			body = with(body, part.at, part.bytes)
			decode(t, body)
		}
		n := random.IntN(21)
		decode(t, with(with(body, 3, string([]byte{byte(n)})), 16+n, strings.Repeat("\x00", 20-n)))
		decode(t, with(body, 2, "\x01\x10"))
		decode(t, with(with(body, 2, "\x01\x10"), 32, "\x00\x00\x00\x00"))
		refuse(t, body+"none", api.ErrSum)
	}
}

func TestCopy(t *testing.T) {
	for r, e := range candidates() {
		want, ok := api.Record{}, e == api.OK && (r.Kind == api.KindData || r.Kind == api.KindTrim)
		if ok {
			want = r
			if want.Move != 255 {
				want.Move++
			}
		}
		if c, o := Copy(r); c != want || o != ok {
			t.Fatalf("Copy(%#v) = %#v, %v, want %#v, %v", r, c, o, want, ok)
		}
	}
}

func TestCopyEachMove(t *testing.T) {
	for _, r := range samples()[:5] {
		for move := range 256 {
			r.Move = move
			want := r
			want.Move = move + 1
			if move == api.MaxMove {
				want.Move = api.MaxMove
			}
			if c, ok := Copy(r); c != want || !ok {
				t.Errorf("Copy(%#v) = %#v, %v", r, c, ok)
			}
		}
	}
}

func TestCopiesAreEncoded(t *testing.T) {
	r := samples()[0]
	for range 300 {
		c, ok := Copy(r)
		s, e := Encode(c)
		if again, f := Decode(s); !ok || e != api.OK || f != api.OK || again != c {
			t.Fatalf("the copy %#v, %v: %v, and comes back as %#v, %v", c, ok, e, again, f)
		}
		r = c
	}
	if r.Move != api.MaxMove {
		t.Errorf("the last Move is %d", r.Move)
	}
}
