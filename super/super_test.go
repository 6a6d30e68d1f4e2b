package super_test

import (
	"encoding/binary"
	"math"
	"math/rand/v2"
	"strings"
	"testing"
	"unsafe"

	"nautilus/api"
	"nautilus/super"
)

const greatest = 1<<48 - 1 // the greatest Seq and Cp

// bytesOf is a block of these numbers, whether they make a right super block or not, worked out without package num.
func bytesOf(s api.Super) string {
	var wide [8]byte
	out := []byte("NAUT")
	out = binary.LittleEndian.AppendUint32(out, uint32(s.Blocks))
	binary.LittleEndian.PutUint64(wide[:], s.Seq)
	out = append(out, wide[:6]...)
	out = binary.LittleEndian.AppendUint32(out, uint32(s.At))
	binary.LittleEndian.PutUint64(wide[:], s.Cp)
	out = append(out, wide[:6]...)
	return string(append(out, make([]byte, 512-len(out))...))
}

// changed is a block with another byte at a place.
func changed(b string, at int, c byte) string {
	return b[:at] + string([]byte{c}) + b[at+1:]
}

func rightOnes() []api.Super {
	return []api.Super{
		{Blocks: 128, Seq: 1, At: 16, Cp: 1},
		{Blocks: 128, Seq: 2, At: 127, Cp: 1},
		{Blocks: 144, Seq: 1, At: 128, Cp: 2},
		{Blocks: 144, Seq: 255, At: 143, Cp: 256},
		{Blocks: 1024, Seq: 256, At: 255, Cp: 255},
		{Blocks: 2048, Seq: 0x060504030201, At: 0x0201, Cp: 0x0c0b0a090807},
		{Blocks: 4080, Seq: 1 << 47, At: 4079, Cp: 1 << 40},
		{Blocks: 4096, Seq: greatest, At: 4095, Cp: greatest},
		{Blocks: 4096, Seq: 1, At: 17, Cp: greatest},
		{Blocks: 4096, Seq: greatest, At: 16, Cp: 1},
	}
}

func wrongOnes() []api.Super {
	out := []api.Super{{}}
	for _, blocks := range []int{0, 1, 16, 112, 127, 129, 130, 136, 143, 4095, 4097, 4104, 4112, 8192, 1 << 32, 1<<32 + 128, -1, -128, -4096, math.MaxInt, math.MaxInt - 15, math.MinInt, math.MinInt + 128} {
		out = append(out, api.Super{Blocks: blocks, Seq: 1, At: 16, Cp: 1})
	}
	for _, at := range []int{0, 1, 8, 15, 128, 129, 4095, 4096, 1 << 32, 1<<32 + 16, -1, -16, -112, math.MaxInt, math.MinInt, math.MinInt + 16} {
		out = append(out, api.Super{Blocks: 128, Seq: 1, At: at, Cp: 1})
	}
	for _, at := range []int{0, 15, 4096, 4097, -16} {
		out = append(out, api.Super{Blocks: 4096, Seq: 1, At: at, Cp: 1})
	}
	for _, n := range []uint64{0, greatest + 1, greatest + 2, 1 << 49, 1 << 63, math.MaxUint64} {
		out = append(out, api.Super{Blocks: 128, Seq: n, At: 16, Cp: 1}, api.Super{Blocks: 128, Seq: 1, At: 16, Cp: n}, api.Super{Blocks: 128, Seq: n, At: 16, Cp: n})
	}
	return out
}

func encoded(t *testing.T, s api.Super) string {
	t.Helper()
	b, err := super.Encode(s)
	if err != api.OK {
		t.Fatalf("Encode(%v): %d", s, err)
	}
	return b
}

func wantDecode(t *testing.T, b string, want api.Super) {
	t.Helper()
	if got, err := super.Decode(b); got != want || err != api.OK {
		t.Errorf("Decode(%.24q) = %v, %d; want %v, 0", b, got, err, want)
	}
}

func refuseDecode(t *testing.T, b string) {
	t.Helper()
	if got, err := super.Decode(b); got != (api.Super{}) || err != api.ErrSuper {
		t.Errorf("Decode of %d bytes, %.24q = %v, %d; want nothing, 50", len(b), b, got, err)
	}
}

// P5.1: which super blocks are right, at the edges of each of their numbers.
func TestRight(t *testing.T) {
	for _, s := range rightOnes() {
		if !super.Right(s) {
			t.Errorf("Right(%v) is false", s)
		}
	}
	for _, s := range wrongOnes() {
		if super.Right(s) {
			t.Errorf("Right(%v) is true", s)
		}
	}
}

// P5.1: Blocks are a disk's, At is one of them behind the first segment: at all numbers near these.
func TestRightAtEachSize(t *testing.T) {
	for blocks := -20; blocks < 4200; blocks++ {
		isDisk := blocks >= 128 && blocks <= 4096 && blocks%16 == 0
		for _, at := range []int{-1, 0, 15, 16, blocks - 1, blocks, blocks + 1} {
			want := isDisk && at >= 16 && at < blocks
			if got := super.Right(api.Super{Blocks: blocks, Seq: 1, At: at, Cp: 1}); got != want {
				t.Errorf("Right with %d blocks, at %d: %v", blocks, at, got)
			}
		}
	}
}

// P5.1: the bytes of a super block, as the chapter's example has them, and with a byte of its own at each place.
func TestEncode(t *testing.T) {
	zeros := strings.Repeat("\x00", 512)
	for _, x := range []struct {
		s    api.Super
		want string
	}{
		{api.Super{Blocks: 128, Seq: 1, At: 16, Cp: 1}, "NAUT\x80\x00\x00\x00\x01\x00\x00\x00\x00\x00\x10\x00\x00\x00\x01\x00\x00\x00\x00\x00"},
		{api.Super{Blocks: 0x0f10, Seq: 0x161514131211, At: 0x0e0d, Cp: 0x262524232221}, "NAUT\x10\x0f\x00\x00\x11\x12\x13\x14\x15\x16\x0d\x0e\x00\x00\x21\x22\x23\x24\x25\x26"},
		{api.Super{Blocks: 4096, Seq: greatest, At: 4095, Cp: greatest}, "NAUT\x00\x10\x00\x00\xff\xff\xff\xff\xff\xff\xff\x0f\x00\x00\xff\xff\xff\xff\xff\xff"},
	} {
		if got := encoded(t, x.s); got != x.want+zeros[len(x.want):] {
			t.Errorf("Encode(%v) = %q", x.s, got)
		}
	}
	for _, s := range rightOnes() {
		if got := encoded(t, s); got != bytesOf(s) {
			t.Errorf("Encode(%v) = %q", s, got)
		}
	}
}

// P5.1: what is no right super block has no bytes.
func TestEncodeRefuses(t *testing.T) {
	for _, s := range wrongOnes() {
		if got, err := super.Encode(s); got != "" || err != api.ErrSuper {
			t.Errorf("Encode(%v) = %q, %d; want nothing, 50", s, got, err)
		}
	}
}

// P5.1: a super block is read from its bytes.
func TestDecode(t *testing.T) {
	for _, s := range rightOnes() {
		wantDecode(t, bytesOf(s), s)
	}
}

// P5.1: bytes of the numbers of a super block that is not right.
func TestDecodeRefusesWrongOnes(t *testing.T) {
	for _, s := range []api.Super{
		{},
		{Blocks: 0, Seq: 1, At: 16, Cp: 1},
		{Blocks: 112, Seq: 1, At: 16, Cp: 1},
		{Blocks: 129, Seq: 1, At: 16, Cp: 1},
		{Blocks: 4112, Seq: 1, At: 16, Cp: 1},
		{Blocks: 1<<16 + 128, Seq: 1, At: 16, Cp: 1},
		{Blocks: 1<<31 + 128, Seq: 1, At: 16, Cp: 1},
		{Blocks: 1<<32 - 128, Seq: 1, At: 16, Cp: 1},
		{Blocks: 128, Seq: 1, At: 0, Cp: 1},
		{Blocks: 128, Seq: 1, At: 15, Cp: 1},
		{Blocks: 128, Seq: 1, At: 128, Cp: 1},
		{Blocks: 128, Seq: 1, At: 1<<16 + 16, Cp: 1},
		{Blocks: 128, Seq: 1, At: 1<<31 + 16, Cp: 1},
		{Blocks: 128, Seq: 1, At: 1<<32 - 16, Cp: 1},
		{Blocks: 128, Seq: 0, At: 16, Cp: 1},
		{Blocks: 128, Seq: 1, At: 16, Cp: 0},
	} {
		refuseDecode(t, bytesOf(s))
	}
}

// P5.1: bytes that are no block, though they begin as a super block does.
func TestDecodeRefusesLengths(t *testing.T) {
	b := bytesOf(api.Super{Blocks: 128, Seq: 1, At: 16, Cp: 1})
	for _, size := range []int{0, 1, 4, 23, 24, 255, 256, 257, 511} {
		refuseDecode(t, b[:size])
	}
	refuseDecode(t, b+"\x00")
	refuseDecode(t, b+b)
	refuseDecode(t, "\x00"+b)
	refuseDecode(t, "\x00"+b[:511])
	refuseDecode(t, strings.Repeat("\x00", 512))
}

// P5.1: no byte of the mark is another one, and none behind the numbers is other than 0.
func TestDecodeRefusesOtherBytes(t *testing.T) {
	b := bytesOf(api.Super{Blocks: 128, Seq: 1, At: 16, Cp: 1})
	for at := range 256 {
		for c := range 256 {
			if (at < 4 || at >= 24) && byte(c) != b[at] {
				refuseDecode(t, changed(b, at, byte(c)))
			}
		}
	}
	for at := 24; at < 255; at++ {
		refuseDecode(t, b[:at]+strings.Repeat("x", 512-at))
	}
	refuseDecode(t, "naut"+b[4:])
}

// P5.1, T6: whatever is read from a block, its bytes are the block's first sector; whatever is not read is no right super block's.
func TestDecodeReadsOneForm(t *testing.T) {
	for _, s := range rightOnes() {
		b := bytesOf(s)
		for at := range 256 {
			for _, c := range []byte{0, 1, 8, 16, 127, 128, 255} {
				other := changed(b, at, c)
				got, err := super.Decode(other)
				switch {
				case err == api.OK && (!super.Right(got) || encoded(t, got)[:256] != other[:256]):
					t.Fatalf("with %d at %d: %v, which has other bytes", c, at, got)
				case err == api.OK && other != b && got == s:
					t.Fatalf("with %d at %d it is read as without", c, at)
				case err != api.OK && other == b:
					t.Fatalf("with %d at %d, as it was: %d", c, at, err)
				}
			}
		}
	}
}

// P5.3: a super block is read as it was, whatever its second sector is.
func TestSecondSectorSaysNothing(t *testing.T) {
	for _, s := range rightOnes() {
		b := encoded(t, s)
		for _, second := range []string{
			strings.Repeat("x", 256),
			strings.Repeat("\xff", 256),
			strings.Repeat("\x00", 255) + "\x01",
			"\x01" + strings.Repeat("\x00", 255),
			b[:256],
			bytesOf(api.Super{Blocks: 256, Seq: 77, At: 99, Cp: 78})[:256],
		} {
			wantDecode(t, b[:256]+second, s)
			got, which, err := super.Newest(b[:256]+second, "", s.Blocks)
			if got != s || which != 0 || err != api.OK {
				t.Errorf("Newest of %v = %v, %d, %d", s, got, which, err)
			}
		}
		for at := 256; at < 512; at++ {
			wantDecode(t, changed(b, at, 0xff), s)
		}
	}
}

// P5.3: numbers of each size, in no order, come back.
func TestSuperBlocksComeBack(t *testing.T) {
	r := rand.New(rand.NewPCG(5, 5))
	for range 2000 {
		s := api.Super{Blocks: 16 * (8 + r.IntN(249)), Seq: 1 + r.Uint64N(greatest)>>r.IntN(48), Cp: 1 + r.Uint64N(greatest)>>r.IntN(48)}
		s.At = 16 + r.IntN(s.Blocks-16)
		b := encoded(t, s)
		if b != bytesOf(s) {
			t.Fatalf("Encode(%v) = %q", s, b)
		}
		wantDecode(t, b, s)
	}
}

type newestCase struct {
	name     string
	one, two string
	blocks   int
	want     api.Super
	which    int
}

func newestCases() []newestCase {
	a := api.Super{Blocks: 128, Seq: 1, At: 16, Cp: 1}
	b := api.Super{Blocks: 128, Seq: 2, At: 20, Cp: 2}
	sameSeq := api.Super{Blocks: 128, Seq: 2, At: 99, Cp: 77}
	bigger := api.Super{Blocks: 144, Seq: 9, At: 16, Cp: 9}
	last := api.Super{Blocks: 128, Seq: greatest, At: 16, Cp: 1}
	nearLast := api.Super{Blocks: 128, Seq: greatest - 1, At: 127, Cp: greatest}
	old, young := bytesOf(a), bytesOf(b)
	torn := young[:10] + strings.Repeat("x", 502)
	zeros := strings.Repeat("\x00", 512)
	return []newestCase{
		{"the second is newer", old, young, 128, b, 1},
		{"the first is newer", young, old, 128, b, 0},
		{"the same twice", old, old, 128, a, 0},
		{"of the same Seq, the first", young, bytesOf(sameSeq), 128, b, 0},
		{"of the same Seq, the other one first", bytesOf(sameSeq), young, 128, sameSeq, 0},
		{"the second alone", torn, young, 128, b, 1},
		{"the second alone, an older one", torn, old, 128, a, 1},
		{"the first alone", old, torn, 128, a, 0},
		{"the second alone, beside bytes 0", zeros, old, 128, a, 1},
		{"the first alone, beside bytes 0", old, zeros, 128, a, 0},
		{"the second alone, beside nothing", "", old, 128, a, 1},
		{"the first alone, beside nothing", old, "", 128, a, 0},
		{"the first is too short", young[:511], old, 128, a, 1},
		{"the second is too long", old, young + "\x00", 128, a, 0},
		{"the first is of another disk, and newer", bytesOf(bigger), old, 128, a, 1},
		{"the second is of another disk, and newer", old, bytesOf(bigger), 128, a, 0},
		{"the second is of this disk, and older", bytesOf(bigger), old, 144, bigger, 0},
		{"the first is of another disk, and older", old, bytesOf(bigger), 144, bigger, 1},
		{"the greatest Seq, first", bytesOf(last), bytesOf(nearLast), 128, last, 0},
		{"the greatest Seq, second", bytesOf(nearLast), bytesOf(last), 128, last, 1},
		{"the greatest Seq and the least, first", bytesOf(last), old, 128, last, 0},
		{"the greatest Seq and the least, second", old, bytesOf(last), 128, last, 1},
	}
}

// P5.2: the newer one of two, of that many Blocks, as far as they are super blocks.
func TestNewest(t *testing.T) {
	for _, x := range newestCases() {
		got, which, err := super.Newest(x.one, x.two, x.blocks)
		if got != x.want || which != x.which || err != api.OK {
			t.Errorf("%s: Newest = %v, %d, %d; want %v, %d, 0", x.name, got, which, err, x.want, x.which)
		}
	}
}

// P5.2: Seq says which is newer, neither Cp nor At.
func TestNewestAsksSeq(t *testing.T) {
	seqs := []uint64{1, 2, 255, 256, 257, 65535, 65536, 1 << 32, 1<<32 + 1, 1 << 47, greatest}
	for i, x := range seqs {
		for k, y := range seqs {
			one := api.Super{Blocks: 4096, Seq: x, At: 4000 - i, Cp: uint64(len(seqs) - i)}
			two := api.Super{Blocks: 4096, Seq: y, At: 3000 - k, Cp: uint64(len(seqs) - k)}
			want, place := one, 0
			if y > x {
				want, place = two, 1
			}
			got, which, err := super.Newest(bytesOf(one), bytesOf(two), 4096)
			if got != want || which != place || err != api.OK {
				t.Errorf("Newest of Seq %d and %d = %v, %d, %d", x, y, got, which, err)
			}
		}
	}
}

// P5.2: none of the two is a super block, or none of that many Blocks.
func TestNewestRefuses(t *testing.T) {
	a := bytesOf(api.Super{Blocks: 128, Seq: 1, At: 16, Cp: 1})
	b := bytesOf(api.Super{Blocks: 128, Seq: 2, At: 16, Cp: 2})
	c := bytesOf(api.Super{Blocks: 144, Seq: 3, At: 16, Cp: 3})
	refuse := func(one string, two string, blocks int) {
		t.Helper()
		if got, which, err := super.Newest(one, two, blocks); got != (api.Super{}) || which != 0 || err != api.ErrSuper {
			t.Errorf("Newest of %d blocks = %v, %d, %d; want nothing, 0, 50", blocks, got, which, err)
		}
	}
	zeros := strings.Repeat("\x00", 512)
	refuse("", "", 128)
	refuse("", "", 0)
	refuse(zeros, zeros, 128)
	refuse(zeros, zeros, 0)
	refuse(a[:256], b[:256], 128)
	refuse(changed(a, 0, 'n'), changed(b, 30, 'x'), 128)
	for _, blocks := range []int{0, 1, 127, 129, 160, 4096, -1, -128, 1<<32 + 128, math.MaxInt, math.MinInt} {
		refuse(a, b, blocks)
		refuse(a, c, blocks)
		refuse(c, b, blocks)
	}
	refuse(a, b, 144)
	refuse(c, c, 128)
	refuse(c, zeros, 128)
	refuse(zeros, c, 128)
	refuse(bytesOf(api.Super{Blocks: 100, Seq: 1, At: 16, Cp: 1}), "", 100) // no disk has so many
	refuse(bytesOf(api.Super{Seq: 1, At: 16, Cp: 1}), "", 0)
}

// P5.2: odd ones lie at the block 0, even ones at 8.
func TestPlace(t *testing.T) {
	for _, seq := range []uint64{1, 3, 255, 1<<32 + 1, greatest, 1<<63 + 1, math.MaxUint64} {
		if at := super.Place(seq); at != 0 {
			t.Errorf("Place(%d) = %d", seq, at)
		}
	}
	for _, seq := range []uint64{0, 2, 4, 256, 1 << 32, greatest + 1, 1 << 63, math.MaxUint64 - 1} {
		if at := super.Place(seq); at != 8 {
			t.Errorf("Place(%d) = %d", seq, at)
		}
	}
}

// P5.2, P5.3: super blocks that are written in turns, each to its place, are found as the newest one of their time, also if the one that is written is torn.
func TestSuperBlocksInTurns(t *testing.T) {
	places := map[int]string{0: strings.Repeat("\x00", 512), 8: strings.Repeat("\x00", 512)}
	var before api.Super
	for seq := uint64(1); seq <= 300; seq++ {
		s := api.Super{Blocks: 512, Seq: seq, At: 16 + int(seq), Cp: 1 + seq/3}
		at := super.Place(seq)
		old := places[at]
		if seq > 1 {
			places[at] = strings.Repeat("?", 256) + old[256:]
			if got, _, err := super.Newest(places[0], places[8], 512); got != before || err != api.OK {
				t.Fatalf("with %d lost: %v, %d", seq, got, err)
			}
		}
		places[at] = encoded(t, s)[:256] + old[256:]
		got, which, err := super.Newest(places[0], places[8], 512)
		if got != s || which != at/8 || err != api.OK {
			t.Fatalf("behind %d: %v, %d, %d", seq, got, which, err)
		}
		before = s
	}
}

// R3: what is answered is new memory each time.
func TestAnswersAreNewMemory(t *testing.T) {
	s := api.Super{Blocks: 128, Seq: 1, At: 16, Cp: 1}
	if a, b := encoded(t, s), encoded(t, s); a != b || unsafe.StringData(a) == unsafe.StringData(b) {
		t.Error("Encode answers the same memory twice")
	}
}
