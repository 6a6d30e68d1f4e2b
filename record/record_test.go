package record_test

import (
	"encoding/binary"
	"math"
	"math/rand/v2"
	"slices"
	"strings"
	"testing"
	"unsafe"

	"nautilus/api"
	"nautilus/record"
)

const greatest = 1<<48 - 1 // the greatest Seq and Cp

// flagByte is what stands for Ends and Sync; 3 of a record that is not right.
func flagByte(r api.Record) byte {
	out := byte(0)
	if r.Ends {
		out |= 1
	}
	if r.Sync {
		out |= 2
	}
	return out
}

// bytesOf is a block of these numbers, whether they make a right record or not, worked out without package num.
func bytesOf(r api.Record) string {
	var wide [8]byte
	out := []byte("R")
	binary.LittleEndian.PutUint64(wide[:], r.Seq)
	out = append(out, wide[:6]...)
	binary.LittleEndian.PutUint64(wide[:], r.Cp)
	out = append(out, wide[:6]...)
	out = append(out, flagByte(r))
	out = binary.LittleEndian.AppendUint16(out, uint16(r.Next))
	out = append(out, byte(len(r.L)))
	for _, e := range r.L {
		out = append(out, byte(e.Kind))
		out = binary.LittleEndian.AppendUint32(out, e.File)
		out = binary.LittleEndian.AppendUint32(out, e.Index)
		out = binary.LittleEndian.AppendUint32(out, e.Vbn)
	}
	return string(append(out, make([]byte, 512-len(out))...))
}

// changed is a block with another byte at a place.
func changed(b string, at int, c byte) string {
	return b[:at] + string([]byte{c}) + b[at+1:]
}

func sameRecord(a api.Record, b api.Record) bool {
	return a.Seq == b.Seq && a.Cp == b.Cp && a.Ends == b.Ends && a.Sync == b.Sync && a.Next == b.Next && slices.Equal(a.L, b.L)
}

func data(file uint32, index uint32, vbn uint32) api.Entry {
	return api.Entry{Kind: api.KData, File: file, Index: index, Vbn: vbn}
}

func entryOf(kind int) api.Entry {
	if kind == api.KData || kind == api.KMap {
		return api.Entry{Kind: kind, File: 3, Vbn: 5}
	}
	return api.Entry{Kind: kind}
}

// entriesOf are right entries of these kinds.
func entriesOf(kinds ...int) []api.Entry {
	var out []api.Entry
	for _, kind := range kinds {
		out = append(out, entryOf(kind))
	}
	return out
}

// fifteen are fourteen entries of one kind, and a last one.
func fifteen(kind int, last int) []api.Entry {
	return append(slices.Repeat(entriesOf(kind), 14), entryOf(last))
}

// plain is a right record of these entries, none of them a root.
func plain(l ...api.Entry) api.Record {
	return api.Record{Seq: 1, Cp: 1, Next: 2, L: l}
}

// ending is a record that Ends, right if the last entry is a root.
func ending(l ...api.Entry) api.Record {
	return api.Record{Seq: 1, Cp: 1, Ends: true, Next: 2, L: l}
}

func rightEntries() []api.Entry {
	var out []api.Entry
	for _, index := range []uint32{0, 1, 255, 256, 1 << 31, math.MaxUint32} {
		for _, kind := range []int{api.KDat, api.KCps} {
			out = append(out, api.Entry{Kind: kind, Index: index})
		}
		for _, kind := range []int{api.KData, api.KMap} {
			out = append(out,
				api.Entry{Kind: kind, File: 1, Index: index, Vbn: 1},
				api.Entry{Kind: kind, File: 240, Index: index, Vbn: 1859},
				api.Entry{Kind: kind, File: 0x04030201, Index: index, Vbn: 0x0c0b0a09},
				api.Entry{Kind: kind, File: math.MaxUint32, Index: index, Vbn: math.MaxUint32})
		}
	}
	return out
}

// wrongEntries are none of any right record.
func wrongEntries() []api.Entry {
	out := []api.Entry{{}, {File: 3, Vbn: 5}}
	for _, kind := range []int{0, 6, 7, 255, 256, 257, 1<<32 + 1, 1<<32 + 3, -1, -5, math.MaxInt, math.MinInt, math.MinInt + 1} {
		out = append(out, api.Entry{Kind: kind}, api.Entry{Kind: kind, File: 3, Vbn: 5}, api.Entry{Kind: kind, Index: 4})
	}
	for _, kind := range []int{api.KData, api.KMap} {
		for _, index := range []uint32{0, 1, math.MaxUint32} {
			out = append(out, api.Entry{Kind: kind, Index: index}, api.Entry{Kind: kind, Index: index, Vbn: 5}, api.Entry{Kind: kind, File: 3, Index: index})
		}
	}
	for _, kind := range []int{api.KDat, api.KCps, api.KRoot} {
		for _, n := range []uint32{1, 256, 1 << 31, math.MaxUint32} {
			out = append(out, api.Entry{Kind: kind, File: n}, api.Entry{Kind: kind, Vbn: n}, api.Entry{Kind: kind, File: n, Index: 1, Vbn: n})
		}
	}
	return out
}

func rightOnes() []api.Record {
	out := []api.Record{
		plain(data(3, 0, 5)),
		plain(fifteen(api.KData, api.KMap)...),
		plain(fifteen(api.KCps, api.KDat)...),
		plain(entriesOf(api.KData, api.KMap, api.KDat, api.KCps, api.KCps, api.KDat, api.KMap, api.KData)...),
		ending(entryOf(api.KRoot)),
		ending(api.Entry{Kind: api.KRoot, Index: math.MaxUint32}),
		ending(fifteen(api.KDat, api.KRoot)...),
		ending(entriesOf(api.KData, api.KMap, api.KDat, api.KCps, api.KRoot)...),
		{Seq: 2, Cp: 1, Sync: true, L: entriesOf(api.KData)},
		{Seq: 0x060504030201, Cp: 0x161514131211, Sync: true, Next: 255, L: entriesOf(api.KData, api.KMap, api.KData)},
		{Seq: greatest, Cp: greatest, Next: 255, L: entriesOf(api.KDat, api.KCps)},
		{Seq: greatest, Cp: 1, Ends: true, L: entriesOf(api.KRoot)},
		{Seq: 1, Cp: greatest, Ends: true, Next: 1, L: entriesOf(api.KCps, api.KRoot)},
		{Seq: 255, Cp: 256, L: entriesOf(api.KMap)},
		{Seq: 1 << 47, Cp: 1 << 40, Next: 128, L: entriesOf(api.KData)},
	}
	for count := 1; count <= 15; count++ {
		var l []api.Entry
		for i := range count {
			l = append(l, data(uint32(i+1), uint32(2*i), uint32(300+i)))
		}
		out = append(out, plain(l...))
	}
	for _, e := range rightEntries() {
		out = append(out, plain(e), plain(data(3, 0, 5), e, data(3, 1, 6)), ending(e, entryOf(api.KRoot)))
	}
	return out
}

// wrongNumbers are records with right entries, one of whose other fields is none.
func wrongNumbers() []api.Record {
	l := entriesOf(api.KData)
	out := []api.Record{{}, {L: l}, {Seq: 1, Cp: 1, Ends: true, Sync: true, L: entriesOf(api.KRoot)}, {Seq: 1, Cp: 1, Ends: true, Sync: true, L: l}}
	for _, n := range []uint64{0, greatest + 1, greatest + 2, 1 << 49, 1<<48 + 1<<32, 1 << 63, math.MaxUint64} {
		out = append(out, api.Record{Seq: n, Cp: 1, L: l}, api.Record{Seq: 1, Cp: n, L: l}, api.Record{Seq: n, Cp: n, L: l})
	}
	for _, next := range []int{-1, -255, -256, 256, 257, 511, 65535, 65536, 65537, 1 << 32, 1<<32 + 1, math.MaxInt, math.MinInt, math.MinInt + 1} {
		out = append(out, api.Record{Seq: 1, Cp: 1, Next: next, L: l})
	}
	return out
}

// wrongLists are records with right numbers, whose entries are none.
func wrongLists() []api.Record {
	root := entryOf(api.KRoot)
	out := []api.Record{
		plain(), ending(), {Seq: 1, Cp: 1, Sync: true}, {Seq: 1, Cp: 1, L: []api.Entry{}},
		plain(root), plain(data(3, 0, 5), root), plain(root, data(3, 0, 5)), plain(data(3, 0, 5), root, data(3, 1, 6)),
		{Seq: 1, Cp: 1, Sync: true, L: entriesOf(api.KRoot)},
		{Seq: 1, Cp: 1, Sync: true, L: entriesOf(api.KData, api.KRoot)},
		ending(data(3, 0, 5)), ending(entryOf(api.KCps)), ending(root, data(3, 0, 5)), ending(root, entryOf(api.KDat)),
		ending(fifteen(api.KRoot, api.KData)...), plain(fifteen(api.KData, api.KRoot)...),
	}
	for _, count := range []int{16, 17, 31, 255, 256, 257, 271, 65537} {
		l := slices.Repeat(entriesOf(api.KData), count)
		out = append(out, plain(l...), ending(append(l[:count-1:count-1], root)...))
	}
	for _, e := range wrongEntries() {
		out = append(out, plain(e), ending(e), plain(data(3, 0, 5), e), plain(e, data(3, 0, 5)), ending(e, root), ending(data(3, 0, 5), e))
		for at := range 15 {
			l := fifteen(api.KData, api.KData)
			l[at] = e
			out = append(out, plain(l...))
		}
	}
	return out
}

func wrongOnes() []api.Record {
	return append(wrongNumbers(), wrongLists()...)
}

func encoded(t *testing.T, r api.Record) string {
	t.Helper()
	b, err := record.Encode(r)
	if err != api.OK {
		t.Fatalf("Encode(%v): %d", r, err)
	}
	return b
}

func wrapped(t *testing.T, content string) string {
	t.Helper()
	b, err := record.Wrap(content)
	if err != api.OK {
		t.Fatalf("Wrap of %d bytes: %d", len(content), err)
	}
	return b
}

func wantDecode(t *testing.T, b string, want api.Record) {
	t.Helper()
	if got, err := record.Decode(b); !sameRecord(got, want) || err != api.OK {
		t.Errorf("Decode(%.40q) = %v, %d; want %v, 0", b, got, err, want)
	}
}

func refuseDecode(t *testing.T, b string) {
	t.Helper()
	if got, err := record.Decode(b); !sameRecord(got, api.Record{}) || err != api.ErrRecord {
		t.Errorf("Decode of %d bytes, %.40q = %v, %d; want nothing, 70", len(b), b, got, err)
	}
}

func wantUnwrap(t *testing.T, b string, want string) {
	t.Helper()
	if got, err := record.Unwrap(b); got != want || err != api.OK {
		t.Errorf("Unwrap(%.24q) = %d bytes, %.24q, %d", b, len(got), got, err)
	}
}

func refuseUnwrap(t *testing.T, b string) {
	t.Helper()
	if got, err := record.Unwrap(b); got != "" || err != api.ErrRecord {
		t.Errorf("Unwrap of %d bytes, %.24q = %d bytes, %d; want nothing, 70", len(b), b, len(got), err)
	}
}

// P7.1: which records are right, at the edges of each of their fields.
func TestRight(t *testing.T) {
	for _, r := range rightOnes() {
		if !record.Right(r) {
			t.Errorf("Right(%v) is false", r)
		}
	}
	for _, r := range wrongOnes() {
		if record.Right(r) {
			t.Errorf("Right of %d entries, %.80v, is true", len(r.L), r.L)
		}
	}
}

// P7.1: Next is 0 to 255, there are 1 to 15 entries: at all numbers near these.
func TestRightAtEachNumber(t *testing.T) {
	for next := -600; next <= 600; next++ {
		r := plain(data(3, 0, 5))
		r.Next = next
		if got := record.Right(r); got != (next >= 0 && next <= 255) {
			t.Errorf("Right with Next %d is %v", next, got)
		}
	}
	for count := range 300 {
		l := slices.Repeat(entriesOf(api.KDat), count)
		if got := record.Right(plain(l...)); got != (count >= 1 && count <= 15) {
			t.Errorf("Right with %d entries is %v", count, got)
		}
		if got := record.Right(ending(append(l, entryOf(api.KRoot))...)); got != (count <= 14) {
			t.Errorf("Right with %d entries and a root is %v", count, got)
		}
	}
}

// P7.1: which kinds of entries want a file and a virtual number, and which want none: at each kind, whatever Index is.
func TestRightAtEachKind(t *testing.T) {
	for kind := -10; kind <= 300; kind++ {
		for _, file := range []uint32{0, 1, math.MaxUint32} {
			for _, vbn := range []uint32{0, 1, math.MaxUint32} {
				want := kind >= 3 && kind <= 4 && file == 0 && vbn == 0 || kind >= 1 && kind <= 2 && file >= 1 && vbn >= 1
				for _, index := range []uint32{0, 1, math.MaxUint32} {
					e := api.Entry{Kind: kind, File: file, Index: index, Vbn: vbn}
					if got := record.Right(plain(e)); got != want {
						t.Errorf("Right with %v is %v", e, got)
					}
				}
			}
		}
	}
}

// P7.1: the last entry of a record that Ends is a root, and no other record has one: of all pairs of kinds.
func TestRightRoots(t *testing.T) {
	for one := 1; one <= 5; one++ {
		for two := 1; two <= 5; two++ {
			l := entriesOf(one, two)
			if got := record.Right(ending(l...)); got != (two == api.KRoot) {
				t.Errorf("Right of one that Ends, of the kinds %d and %d, is %v", one, two, got)
			}
			none := one != api.KRoot && two != api.KRoot
			if got := record.Right(plain(l...)); got != none {
				t.Errorf("Right of the kinds %d and %d is %v", one, two, got)
			}
			if got := record.Right(api.Record{Seq: 1, Cp: 1, Sync: true, L: l}); got != none {
				t.Errorf("Right of one that Syncs, of the kinds %d and %d, is %v", one, two, got)
			}
		}
	}
}

// P7.1: a record's bytes, with a byte of its own at each place.
func TestEncode(t *testing.T) {
	zeros := strings.Repeat("\x00", 512)
	syncs := api.Record{Seq: 0x161514131211, Cp: 0x262524232221, Sync: true, Next: 0xfe, L: []api.Entry{
		{Kind: api.KMap, File: 0x34333231, Index: 0x44434241, Vbn: 0x54535251},
		{Kind: api.KDat, Index: 0x64636261},
	}}
	ends := api.Record{Seq: greatest, Cp: 256, Ends: true, Next: 255, L: []api.Entry{
		{Kind: api.KCps, Index: 7},
		{Kind: api.KRoot, Index: math.MaxUint32},
	}}
	for _, x := range []struct {
		r    api.Record
		want string
	}{
		{plain(data(3, 0, 5)), "R\x01\x00\x00\x00\x00\x00\x01\x00\x00\x00\x00\x00\x00\x02\x00\x01" + "\x01\x03\x00\x00\x00\x00\x00\x00\x00\x05\x00\x00\x00"},
		{syncs, "R\x11\x12\x13\x14\x15\x16\x21\x22\x23\x24\x25\x26\x02\xfe\x00\x02" + "\x02\x31\x32\x33\x34\x41\x42\x43\x44\x51\x52\x53\x54" + "\x03\x00\x00\x00\x00\x61\x62\x63\x64\x00\x00\x00\x00"},
		{ends, "R\xff\xff\xff\xff\xff\xff\x00\x01\x00\x00\x00\x00\x01\xff\x00\x02" + "\x04\x00\x00\x00\x00\x07\x00\x00\x00\x00\x00\x00\x00" + "\x05\x00\x00\x00\x00\xff\xff\xff\xff\x00\x00\x00\x00"},
	} {
		if got := encoded(t, x.r); got != x.want+zeros[len(x.want):] {
			t.Errorf("Encode(%v) = %q", x.r, got)
		}
	}
	for _, r := range rightOnes() {
		if got := encoded(t, r); got != bytesOf(r) {
			t.Errorf("Encode(%v) = %q", r, got)
		}
	}
}

// P7.1: what is no right record has no bytes.
func TestEncodeRefuses(t *testing.T) {
	for _, r := range wrongOnes() {
		if got, err := record.Encode(r); got != "" || err != api.ErrRecord {
			t.Errorf("Encode of %d entries, %.80v = %.40q, %d; want nothing, 70", len(r.L), r.L, got, err)
		}
	}
}

// P7.1: a record is read from its bytes.
func TestDecode(t *testing.T) {
	for _, r := range rightOnes() {
		wantDecode(t, bytesOf(r), r)
	}
}

// P7.1: bytes of the numbers of a record that is not right.
func TestDecodeRefusesWrongOnes(t *testing.T) {
	for _, r := range []api.Record{
		{},
		plain(),
		ending(),
		{Cp: 1, L: entriesOf(api.KData)},
		{Seq: 1, L: entriesOf(api.KData)},
		{Seq: 1, Cp: 1, Ends: true, Sync: true, L: entriesOf(api.KRoot)},
		{Seq: 1, Cp: 1, Ends: true, Sync: true, L: entriesOf(api.KData)},
		{Seq: 1, Cp: 1, Next: 256, L: entriesOf(api.KData)},
		{Seq: 1, Cp: 1, Next: 65535, L: entriesOf(api.KData)},
		{Seq: 1, Cp: 1, Sync: true, L: entriesOf(api.KRoot)},
		plain(entriesOf(api.KRoot)...),
		plain(entriesOf(api.KRoot, api.KData)...),
		ending(entriesOf(api.KData)...),
		ending(entriesOf(api.KRoot, api.KData)...),
		plain(slices.Repeat(entriesOf(api.KData), 16)...),
		plain(slices.Repeat(entriesOf(api.KData), 18)...),
		plain(slices.Repeat(entriesOf(api.KData), 19)...),
		ending(append(slices.Repeat(entriesOf(api.KData), 15), entryOf(api.KRoot))...),
	} {
		refuseDecode(t, bytesOf(r))
	}
	for _, e := range wrongEntries() {
		if e.Kind >= 0 && e.Kind <= 255 { // a byte says no other one
			refuseDecode(t, bytesOf(plain(e)))
			refuseDecode(t, bytesOf(plain(data(3, 0, 5), e)))
			refuseDecode(t, bytesOf(ending(e, entryOf(api.KRoot))))
			refuseDecode(t, bytesOf(ending(data(3, 0, 5), e)))
		}
	}
}

// P7.1: bytes that are no block, though they begin as a record does.
func TestDecodeRefusesLengths(t *testing.T) {
	for _, r := range []api.Record{plain(data(3, 0, 5)), plain(fifteen(api.KData, api.KMap)...)} {
		b := bytesOf(r)
		for size := range 512 {
			refuseDecode(t, b[:size])
		}
		refuseDecode(t, b+"\x00")
		refuseDecode(t, b+b)
		refuseDecode(t, "\x00"+b)
		refuseDecode(t, "\x00"+b[:511])
	}
	refuseDecode(t, strings.Repeat("\x00", 512))
	refuseDecode(t, strings.Repeat("\xff", 512))
	refuseDecode(t, strings.Repeat("R", 512))
}

// P7.1: no byte of the mark is another one, no flag is above 2, none behind the entries is other than 0.
func TestDecodeRefusesOtherBytes(t *testing.T) {
	for _, r := range []api.Record{plain(data(3, 0, 5)), plain(fifteen(api.KData, api.KMap)...), ending(entriesOf(api.KDat, api.KRoot)...)} {
		b, behind := bytesOf(r), 17+13*len(r.L)
		for c := range 256 {
			if c != 'R' {
				refuseDecode(t, changed(b, 0, byte(c)))
			}
			if c > 2 {
				refuseDecode(t, changed(b, 13, byte(c)))
			}
			if c != 0 {
				refuseDecode(t, changed(b, 15, byte(c)))
			}
			if c != len(r.L) {
				refuseDecode(t, changed(b, 16, byte(c)))
			}
			for at := behind; at < 256 && c != 0; at++ {
				refuseDecode(t, changed(b, at, byte(c)))
			}
		}
	}
}

// P7.1, T6: whatever is read from a block, its bytes are the block's first sector; whatever is not read is no right record's.
func TestDecodeReadsOneForm(t *testing.T) {
	for _, r := range rightOnes()[:30] {
		b := bytesOf(r)
		for at := range 256 {
			for _, c := range []byte{0, 1, 2, 3, 4, 5, 15, 16, 127, 128, 255} {
				other := changed(b, at, c)
				got, err := record.Decode(other)
				switch {
				case err == api.OK && (!record.Right(got) || bytesOf(got)[:256] != other[:256]):
					t.Fatalf("with %d at %d: %v, which has other bytes", c, at, got)
				case err == api.OK && other != b && sameRecord(got, r):
					t.Fatalf("with %d at %d it is read as without", c, at)
				case err != api.OK && other == b:
					t.Fatalf("with %d at %d, as it was: %d", c, at, err)
				}
			}
		}
	}
}

// P7.1: of blocks that begin as records do, those are read that are right, all others refused.
func TestDecodeOfAnyBytes(t *testing.T) {
	r := rand.New(rand.NewPCG(7, 7))
	ones := rightOnes()[:15]
	for range 20000 {
		b := []byte(bytesOf(ones[r.IntN(len(ones))]))
		for range 1 + r.IntN(3) {
			b[r.IntN(60)] = byte(r.IntN(256) >> r.IntN(9))
		}
		got, err := record.Decode(string(b))
		switch {
		case err == api.OK && (!record.Right(got) || bytesOf(got) != string(b)):
			t.Fatalf("Decode(%.60q) = %v", b, got)
		case err != api.OK && (err != api.ErrRecord || !sameRecord(got, api.Record{})):
			t.Fatalf("Decode(%.60q) = %v, %d", b, got, err)
		}
	}
}

// P7.2: a content stands behind the mark, bytes 0 behind it.
func TestWrap(t *testing.T) {
	for size := 0; size <= 508; size++ {
		content := strings.Repeat("\xa5", size)
		want := "P\x00\x00\x00" + content + strings.Repeat("\x00", 508-size)
		if got, err := record.Wrap(content); got != want || err != api.OK {
			t.Errorf("Wrap of %d bytes = %d bytes, %.24q, %d", size, len(got), got, err)
		}
	}
	for _, size := range []int{509, 510, 512, 513, 65535, 65536, 65537, 1 << 20} {
		if got, err := record.Wrap(strings.Repeat("a", size)); got != "" || err != api.ErrRecord {
			t.Errorf("Wrap of %d bytes = %d bytes, %d; want nothing, 70", size, len(got), err)
		}
		if got, err := record.Wrap(strings.Repeat("\x00", size)); got != "" || err != api.ErrRecord {
			t.Errorf("Wrap of %d bytes 0 = %d bytes, %d; want nothing, 70", size, len(got), err)
		}
	}
}

// P7.2: a content is all that stands behind the mark, bytes 0 and others.
func TestUnwrap(t *testing.T) {
	for _, content := range []string{
		strings.Repeat("\x00", 508),
		strings.Repeat("\xff", 508),
		"ab" + strings.Repeat("\x00", 506),
		strings.Repeat("\x00", 507) + "z",
		"P\x00\x00\x00" + strings.Repeat("P", 504),
		bytesOf(plain(data(3, 0, 5)))[:508],
	} {
		wantUnwrap(t, "P\x00\x00\x00"+content, content)
	}
}

// P7.2: bytes that are no block behind a record: another mark, or not so many.
func TestUnwrapRefuses(t *testing.T) {
	b := "P\x00\x00\x00" + strings.Repeat("\x00", 508)
	for at := range 4 {
		for c := range 256 {
			if byte(c) != b[at] {
				refuseUnwrap(t, changed(b, at, byte(c)))
			}
		}
	}
	for size := range 512 {
		refuseUnwrap(t, b[:size])
	}
	refuseUnwrap(t, b+"\x00")
	refuseUnwrap(t, b+b)
	refuseUnwrap(t, b[4:])
	refuseUnwrap(t, "\x00"+b[:511])
	refuseUnwrap(t, strings.Repeat("\x00", 512))
	refuseUnwrap(t, strings.Repeat("P", 512))
	for _, r := range rightOnes() {
		refuseUnwrap(t, bytesOf(r))
	}
}

// P7.3: the blocks behind one, up to its segment's end.
func TestRoom(t *testing.T) {
	for _, x := range []struct{ at, want int }{
		{0, 15}, {1, 14}, {15, 0}, {16, 15}, {17, 14}, {29, 2}, {30, 1}, {31, 0}, {32, 15},
		{127, 0}, {128, 15}, {4095, 0}, {4096, 15}, {4097, 14}, {math.MaxInt, 0}, {math.MaxInt - 15, 15}, {math.MaxInt - 1, 1},
		{-1, 0}, {-2, 0}, {-15, 0}, {-16, 0}, {-17, 0}, {math.MinInt, 0}, {math.MinInt + 1, 0},
	} {
		if got := record.Room(x.at); got != x.want {
			t.Errorf("Room(%d) = %d; want %d", x.at, got, x.want)
		}
	}
	for segment := range 300 {
		for place := range 16 {
			if got := record.Room(16*segment + place); got != 15-place {
				t.Errorf("Room(%d) = %d", 16*segment+place, got)
			}
		}
	}
}

// P7.4: a record is read as it was, whatever its second sector is.
func TestSecondSectorSaysNothing(t *testing.T) {
	for _, r := range rightOnes() {
		b := encoded(t, r)
		for _, second := range []string{
			strings.Repeat("x", 256),
			strings.Repeat("\xff", 256),
			strings.Repeat("\x00", 255) + "\x01",
			"\x01" + strings.Repeat("\x00", 255),
			b[:256],
			bytesOf(ending(fifteen(api.KDat, api.KRoot)...))[:256],
			wrapped(t, strings.Repeat("P", 508))[:256],
		} {
			wantDecode(t, b[:256]+second, r)
		}
	}
	b := bytesOf(plain(fifteen(api.KData, api.KMap)...))
	for at := 256; at < 512; at++ {
		wantDecode(t, changed(b, at, 0xff), plain(fifteen(api.KData, api.KMap)...))
	}
}

func anyEntry(r *rand.Rand) api.Entry {
	e := api.Entry{Kind: 1 + r.IntN(4), Index: r.Uint32() >> r.IntN(32)}
	if e.Kind == api.KData || e.Kind == api.KMap {
		e.File, e.Vbn = max(1, r.Uint32()>>r.IntN(32)), max(1, r.Uint32()>>r.IntN(32))
	}
	return e
}

func anyRecord(r *rand.Rand) api.Record {
	out := api.Record{Seq: 1 + r.Uint64N(greatest)>>r.IntN(48), Cp: 1 + r.Uint64N(greatest)>>r.IntN(48), Next: r.IntN(256)}
	for range 1 + r.IntN(15) {
		out.L = append(out.L, anyEntry(r))
	}
	switch r.IntN(3) {
	case 0:
		out.Ends = true
		out.L[len(out.L)-1] = api.Entry{Kind: api.KRoot, Index: r.Uint32()}
	case 1:
		out.Sync = true
	}
	return out
}

// P7.4: records of any numbers, in no order, come back.
func TestRecordsComeBack(t *testing.T) {
	r := rand.New(rand.NewPCG(7, 8))
	for range 5000 {
		a := anyRecord(r)
		b := encoded(t, a)
		if b != bytesOf(a) {
			t.Fatalf("Encode(%v) = %q", a, b)
		}
		wantDecode(t, b, a)
		refuseUnwrap(t, b)
	}
}

// P7.4: a content of any bytes is unwrapped as it was wrapped, bytes 0 behind it, and what is wrapped is no record.
func TestContentsComeBack(t *testing.T) {
	r := rand.New(rand.NewPCG(7, 9))
	for size := range 509 {
		content := make([]byte, size)
		for i := range content {
			content[i] = byte(r.IntN(256))
		}
		b := wrapped(t, string(content))
		wantUnwrap(t, b, string(content)+strings.Repeat("\x00", 508-size))
		refuseDecode(t, b)
	}
	for _, a := range rightOnes() {
		refuseDecode(t, wrapped(t, bytesOf(a)[:508]))
		refuseDecode(t, wrapped(t, bytesOf(a)[4:]))
	}
}

func sharesMemory(a string, b string) bool {
	from, to := uintptr(unsafe.Pointer(unsafe.StringData(a))), uintptr(unsafe.Pointer(unsafe.StringData(b)))
	return from < to+uintptr(len(b)) && to < from+uintptr(len(a))
}

// R3: what is answered is new memory each time.
func TestAnswersAreNewMemory(t *testing.T) {
	r := plain(data(3, 0, 5), data(3, 1, 6))
	one, two := encoded(t, r), encoded(t, r)
	if one != two || sharesMemory(one, two) {
		t.Error("Encode answers the same memory twice")
	}
	full := strings.Repeat("a", 508)
	w := wrapped(t, full)
	if sharesMemory(w, full) || sharesMemory(w, wrapped(t, full)) {
		t.Error("Wrap answers memory that is not new")
	}
	if c, _ := record.Unwrap(w); c != full || sharesMemory(c, w) {
		t.Error("Unwrap answers a piece of what was handed in")
	}
	a, _ := record.Decode(one)
	b, _ := record.Decode(one)
	a.L[0] = data(9, 9, 9)
	_ = append(a.L, data(8, 8, 8)) // into spare room, if there is some
	if !slices.Equal(b.L, r.L) {
		t.Error("two answers of Decode share their entries")
	}
	wantDecode(t, one, r)
}

// R3: neither entries that are handed in nor their spare room is written into, or kept.
func TestEntriesAreLeftAlone(t *testing.T) {
	room := slices.Repeat([]api.Entry{data(1, 2, 3)}, 20)
	r := ending(append(room[:4:4], entryOf(api.KRoot))...)
	room = append(r.L, room[:3]...)
	before := slices.Clone(room)
	r.L = room[:5]
	record.Right(r)
	b := encoded(t, r)
	if !slices.Equal(room, before) {
		t.Errorf("what was handed in is %v now", room)
	}
	r.L[0] = data(7, 7, 7)
	wantDecode(t, b, ending(before[:5]...))
}
