package root_test

import (
	"encoding/binary"
	"math"
	"math/rand/v2"
	"reflect"
	"slices"
	"strings"
	"testing"
	"unsafe"

	"nautilus/api"
	"nautilus/root"
)

const greatest = 1<<48 - 1 // the greatest Cp and Tick

// from are so many places, from one on.
func from(first uint32, count int) []uint32 {
	out := make([]uint32, count)
	for i := range out {
		out[i] = first + uint32(i)
	}
	return out
}

// bytesOf is a content of these numbers, whether they make a right root or not, worked out without package num.
func bytesOf(r api.Root) string {
	var wide [8]byte
	var out []byte
	for _, n := range []uint64{r.Cp, r.Tick} {
		binary.LittleEndian.PutUint64(wide[:], n)
		out = append(out, wide[:6]...)
	}
	out = append(out, byte(len(r.Dats)), byte(len(r.Cps)))
	for _, n := range slices.Concat(r.Dats, r.Cps) {
		out = binary.LittleEndian.AppendUint32(out, n)
	}
	if len(out) > 508 {
		return string(out[:508])
	}
	return string(append(out, make([]byte, 508-len(out))...))
}

func rightOnes() []api.Root {
	return []api.Root{
		{Cp: 1, Tick: 0, Dats: []uint32{16}, Cps: []uint32{17}},
		{Cp: 2, Tick: 3, Dats: []uint32{17}, Cps: []uint32{18}},
		{Cp: 1, Tick: 0, Dats: []uint32{4095}, Cps: []uint32{16}},
		{Cp: 255, Tick: 256, Dats: []uint32{16}, Cps: []uint32{4095}},
		{Cp: greatest, Tick: greatest, Dats: []uint32{255}, Cps: []uint32{256}},
		{Cp: 0x060504030201, Tick: 0x0c0b0a090807, Dats: []uint32{0x0201, 0x0403}, Cps: []uint32{0x0605, 0x0807}},
		{Cp: 1 << 47, Tick: 1 << 40, Dats: []uint32{20, 19, 18}, Cps: []uint32{30, 17, 21}},
		{Cp: 1, Tick: greatest, Dats: from(16, 60), Cps: from(76, 12)},
		{Cp: greatest, Tick: 0, Dats: from(4036, 60), Cps: from(16, 12)},
		{Cp: 7, Tick: 7, Dats: from(16, 60), Cps: from(4095, 1)},
		{Cp: 7, Tick: 7, Dats: from(4095, 1), Cps: from(4083, 12)},
	}
}

func wrongOnes() []api.Root {
	out := []api.Root{{}}
	one, other := []uint32{17}, []uint32{18}
	for _, cp := range []uint64{0, greatest + 1, greatest + 2, 1 << 49, 1<<48 + 1<<47, 1 << 63, math.MaxUint64} {
		out = append(out, api.Root{Cp: cp, Tick: 1, Dats: one, Cps: other})
	}
	for _, tick := range []uint64{greatest + 1, greatest + 2, 1 << 49, 1 << 63, math.MaxUint64} {
		out = append(out, api.Root{Cp: 1, Tick: tick, Dats: one, Cps: other})
	}
	for _, l := range [][]uint32{nil, {}, {0}, {1}, {15}, {4096}, {4097}, {1 << 16}, {1<<16 + 20}, {1 << 31}, {math.MaxUint32}, {20, 20}, {20, 21, 20}, {20, 15}, {20, 4096}} {
		out = append(out, api.Root{Cp: 1, Dats: l, Cps: other}, api.Root{Cp: 1, Dats: one, Cps: l}, api.Root{Cp: 1, Dats: l, Cps: l})
	}
	for _, x := range []struct{ dats, cps int }{{61, 1}, {1, 13}, {61, 13}, {62, 1}, {60, 13}, {61, 12}, {0, 12}, {60, 0}, {200, 1}, {256, 1}, {257, 1}, {1, 256}, {1, 257}, {1, 200}, {3000, 1}} {
		out = append(out, api.Root{Cp: 1, Dats: from(16, x.dats), Cps: from(16+uint32(x.dats), x.cps)})
	}
	last := from(16, 60)
	last[59] = 16
	twice := from(76, 12)
	twice[11] = 76
	return append(out,
		api.Root{Cp: 1, Dats: one, Cps: one},
		api.Root{Cp: 1, Dats: last, Cps: from(76, 12)},
		api.Root{Cp: 1, Dats: from(16, 60), Cps: twice},
		api.Root{Cp: 1, Dats: from(16, 60), Cps: from(75, 12)},
		api.Root{Cp: 1, Dats: from(16, 60), Cps: from(64, 12)},
		api.Root{Cp: 1, Dats: from(27, 60), Cps: from(16, 12)},
		api.Root{Cp: 1, Dats: []uint32{20, 21, 22}, Cps: []uint32{19, 23, 21}},
	)
}

func same(a, b api.Root) bool {
	return a.Cp == b.Cp && a.Tick == b.Tick && slices.Equal(a.Dats, b.Dats) && slices.Equal(a.Cps, b.Cps)
}

func wantDecode(t *testing.T, s string, want api.Root) {
	t.Helper()
	if got, err := root.Decode(s); !same(got, want) || err != api.OK {
		t.Errorf("Decode(%.24q) = %v, %d; want %v, 0", s, got, err, want)
	}
}

func refuseDecode(t *testing.T, s string) {
	t.Helper()
	if got, err := root.Decode(s); !reflect.DeepEqual(got, api.Root{}) || err != api.ErrRoot {
		t.Errorf("Decode of %d bytes, %.40q = %v, %d; want nothing, 153", len(s), s, got, err)
	}
}

// P16.1: which roots are right, at the edges of each of their numbers.
func TestRight(t *testing.T) {
	for _, r := range rightOnes() {
		if !root.Right(r) {
			t.Errorf("Right(%v) is false", r)
		}
	}
	for _, r := range wrongOnes() {
		if root.Right(r) {
			t.Errorf("Right(%v) is true", r)
		}
	}
}

// P16.1: of each count of Dats and Cps, up to some above the limits.
func TestRightAtEachCount(t *testing.T) {
	for dats := range 70 {
		for cps := range 20 {
			r := api.Root{Cp: 1, Dats: from(100, dats), Cps: from(1000, cps)}
			want := dats >= 1 && dats <= 60 && cps >= 1 && cps <= 12
			if got := root.Right(r); got != want {
				t.Errorf("Right with %d Dats, %d Cps: %v", dats, cps, got)
			}
			s, err := root.Encode(r)
			if want && (s != bytesOf(r) || err != api.OK) || !want && (s != "" || err != api.ErrRoot) {
				t.Errorf("Encode with %d Dats, %d Cps: %.20q, %d", dats, cps, s, err)
			}
		}
	}
}

// P16.1: each place that a block may have, as each one of three.
func TestRightAtEachPlace(t *testing.T) {
	for place := range uint32(4200) {
		want := place >= 16 && place < 4096
		for _, r := range []api.Root{
			{Cp: 1, Dats: []uint32{place, 5000 - place}, Cps: []uint32{90}},
			{Cp: 1, Dats: []uint32{90, place}, Cps: []uint32{91}},
			{Cp: 1, Dats: []uint32{90}, Cps: []uint32{91, place}},
		} {
			all := slices.Concat(r.Dats, r.Cps)
			slices.Sort(all)
			right := want && all[0] >= 16 && all[len(all)-1] < 4096 && len(slices.Compact(slices.Clone(all))) == len(all)
			if got := root.Right(r); got != right {
				t.Errorf("Right(%v) = %v", r, got)
			}
		}
	}
}

// P16.1: two of all that are the same, wherever they stand.
func TestRightOfTwoThatAreTheSame(t *testing.T) {
	for one := range 72 {
		for other := range one {
			all := from(40, 72)
			all[one] = all[other]
			r := api.Root{Cp: 1, Dats: all[:60], Cps: all[60:]}
			if root.Right(r) {
				t.Errorf("Right, with %d and %d the same", other, one)
			}
			if s, err := root.Encode(r); s != "" || err != api.ErrRoot {
				t.Errorf("Encode, with %d and %d the same: %.20q, %d", other, one, s, err)
			}
			refuseDecode(t, bytesOf(r))
		}
	}
}

// P16.1: the bytes of a content, as the chapter's examples have them.
func TestEncode(t *testing.T) {
	zeros := strings.Repeat("\x00", 508)
	for _, x := range []struct {
		r    api.Root
		want string
	}{
		{api.Root{Cp: 2, Tick: 3, Dats: []uint32{17}, Cps: []uint32{18}}, "\x02\x00\x00\x00\x00\x00\x03\x00\x00\x00\x00\x00\x01\x01\x11\x00\x00\x00\x12\x00\x00\x00"},
		{api.Root{Cp: 0x060504030201, Tick: 0x0c0b0a090807, Dats: []uint32{0x0201, 0x0403}, Cps: []uint32{0x0605, 0x0807, 0x0109}}, "\x01\x02\x03\x04\x05\x06\x07\x08\x09\x0a\x0b\x0c\x02\x03\x01\x02\x00\x00\x03\x04\x00\x00\x05\x06\x00\x00\x07\x08\x00\x00\x09\x01\x00\x00"},
	} {
		want := x.want + zeros[len(x.want):]
		if got, err := root.Encode(x.r); got != want || err != api.OK {
			t.Errorf("Encode(%v) = %q, %d", x.r, got, err)
		}
		if x.want+zeros[len(x.want):] != bytesOf(x.r) {
			t.Errorf("the test's bytes of %v are wrong", x.r)
		}
	}
	for _, r := range rightOnes() {
		if got, err := root.Encode(r); got != bytesOf(r) || err != api.OK {
			t.Errorf("Encode(%v) = %q, %d", r, got, err)
		}
	}
}

// P16.1: Encode of a root that is not right.
func TestEncodeOfWrongOnes(t *testing.T) {
	for _, r := range wrongOnes() {
		if s, err := root.Encode(r); s != "" || err != api.ErrRoot {
			t.Errorf("Encode(%v) = %.20q, %d", r, s, err)
		}
	}
}

// P16.1, P16.2: a root is read from its content as it was.
func TestDecode(t *testing.T) {
	for _, r := range rightOnes() {
		wantDecode(t, bytesOf(r), r)
	}
}

// P16.1: contents of roots that are not right, though their bytes stand as right ones' do.
func TestDecodeOfWrongOnes(t *testing.T) {
	for _, r := range wrongOnes() {
		if r.Cp > greatest || r.Tick > greatest || len(r.Dats) > 123 || len(r.Cps) > 122 {
			continue // they have no bytes of their own
		}
		refuseDecode(t, bytesOf(r))
	}
}

// P16.1: counts, each one that a byte can say, over bytes that stand in places.
func TestDecodeAtEachCount(t *testing.T) {
	for dats := range 256 {
		for cps := range 256 {
			if dats > 66 && cps > 16 && (dats+cps)%37 != 0 {
				continue
			}
			var out []byte
			out = append(out, 1, 0, 0, 0, 0, 0, 2, 0, 0, 0, 0, 0, byte(dats), byte(cps))
			for i := 0; i < dats+cps && len(out)+4 <= 508; i++ {
				out = binary.LittleEndian.AppendUint32(out, uint32(16+i))
			}
			s := string(append(out, make([]byte, 508-len(out))...))
			if dats >= 1 && dats <= 60 && cps >= 1 && cps <= 12 {
				wantDecode(t, s, api.Root{Cp: 1, Tick: 2, Dats: from(16, dats), Cps: from(16+uint32(dats), cps)})
				continue
			}
			refuseDecode(t, s)
		}
	}
}

// P16.1: of other lengths there is none.
func TestDecodeOfOtherLengths(t *testing.T) {
	for _, r := range rightOnes() {
		s := bytesOf(r)
		for length := range 508 {
			refuseDecode(t, s[:length])
		}
		for _, more := range []string{"\x00", "\x00\x00\x00\x00", "x", strings.Repeat("\x00", 508), s} {
			refuseDecode(t, s+more)
		}
	}
	refuseDecode(t, strings.Repeat("\x00", 508))
	refuseDecode(t, strings.Repeat("\xff", 508))
	refuseDecode(t, strings.Repeat("\x10", 508))
}

// P16.1, T6: each single byte changed to each other one: read as what it says now, if that is right, else refused.
func TestDecodeOfChangedBytes(t *testing.T) {
	for _, r := range rightOnes() {
		s := bytesOf(r)
		for at := range s {
			for c := range 256 {
				if at > 30 && at < 500 && c%16 > 2 {
					continue
				}
				b := s[:at] + string([]byte{byte(c)}) + s[at+1:]
				got, err := root.Decode(b)
				if err == api.OK && (bytesOf(got) != b || !root.Right(got)) || err != api.OK && err != api.ErrRoot {
					t.Fatalf("Decode(%.40q) = %v, %d", b, got, err)
				}
				behind := at >= 14+4*(len(r.Dats)+len(r.Cps))
				if behind && (err == api.OK) != (b == s) {
					t.Fatalf("byte %d behind the places is %d: %d", at, c, err)
				}
				if want, is := plainDecode(b); is != (err == api.OK) || is && !same(want, got) {
					t.Fatalf("Decode(%.40q) = %v, %d; want %v, %v", b, got, err, want, is)
				}
			}
		}
	}
}

// plainDecode is the root whose content s is, told straight from the chapter's words.
func plainDecode(s string) (api.Root, bool) {
	six := func(at int) uint64 {
		return uint64(binary.LittleEndian.Uint32([]byte(s[at:at+4]))) | uint64(s[at+4])<<32 | uint64(s[at+5])<<40
	}
	r := api.Root{Cp: six(0), Tick: six(6)}
	dats, cps := int(s[12]), int(s[13])
	if r.Cp == 0 || dats == 0 || dats > 60 || cps == 0 || cps > 12 {
		return r, false
	}
	var all []uint32
	for i := range dats + cps {
		n := binary.LittleEndian.Uint32([]byte(s[14+4*i : 18+4*i]))
		if n < 16 || n > 4095 || slices.Contains(all, n) {
			return r, false
		}
		all = append(all, n)
	}
	r.Dats, r.Cps = all[:dats], all[dats:]
	return r, strings.Trim(s[14+4*(dats+cps):], "\x00") == ""
}

// P16.2: roots of no order.
func TestRoundOfRandomRoots(t *testing.T) {
	random := rand.New(rand.NewPCG(16, 1))
	for range 3000 {
		places := random.Perm(4080)[:2+random.IntN(71)]
		var all []uint32
		for _, place := range places {
			all = append(all, uint32(place+16))
		}
		dats := 1 + random.IntN(len(all)-1)
		r := api.Root{Cp: random.Uint64() >> (16 + random.IntN(48)), Tick: random.Uint64() >> (16 + random.IntN(48)), Dats: all[:dats], Cps: all[dats:]}
		right := r.Cp >= 1 && len(r.Dats) <= 60 && len(r.Cps) <= 12
		s, err := root.Encode(r)
		if root.Right(r) != right || (err == api.OK) != right {
			t.Fatalf("Right(%v) = %v, Encode: %d", r, !right, err)
		}
		if right {
			if s != bytesOf(r) {
				t.Fatalf("Encode(%v) = %q", r, s)
			}
			wantDecode(t, s, r)
		}
	}
}

// P16.1: Decode of bytes of no order ends, and what it reads is encoded as they were.
func TestDecodeOfRandomBytes(t *testing.T) {
	random := rand.New(rand.NewPCG(16, 2))
	for range 20000 {
		b := []byte(bytesOf(rightOnes()[random.IntN(11)]))
		for range 1 + random.IntN(4) {
			b[random.IntN(1+random.IntN(len(b)))] = byte(random.Uint32() >> random.IntN(32))
		}
		s := string(b)
		want, is := plainDecode(s)
		if !is {
			refuseDecode(t, s)
			continue
		}
		wantDecode(t, s, want)
	}
}

// R3: what is handed in is not written into, nor its spare room; what is answered is new memory, and no two lists share any.
func TestMemory(t *testing.T) {
	spare := from(16, 100)
	r := api.Root{Cp: 1, Tick: 2, Dats: spare[:2], Cps: spare[50:53]}
	s, err := root.Encode(r)
	if err != api.OK || !root.Right(r) || !slices.Equal(spare, from(16, 100)) {
		t.Fatalf("what was handed in is %v now; %d", spare, err)
	}
	one, _ := root.Decode(s)
	two, _ := root.Decode(s)
	_ = append(one.Dats, 4000)
	_ = append(one.Cps, 4001)
	for i := range one.Dats {
		one.Dats[i] = 3000
	}
	if !slices.Equal(one.Cps, []uint32{66, 67, 68}) || !same(two, r) {
		t.Errorf("lists of answers share memory: %v, %v", one, two)
	}
	for i := range one.Cps {
		one.Cps[i] = 3000
	}
	all := one.Dats[:cap(one.Dats)]
	for i := range all {
		all[i] = 77
	}
	if !same(two, r) || slices.Contains(one.Cps, 77) {
		t.Errorf("lists of answers share spare room: %v, %v", one, two)
	}
	wantDecode(t, s, r)
	again, _ := root.Encode(r)
	if unsafe.StringData(again) == unsafe.StringData(s) {
		t.Error("two answers share memory")
	}
}

// R3: nil and empty lists are one.
func TestNilAndEmpty(t *testing.T) {
	for _, r := range []api.Root{{Cp: 1, Dats: []uint32{}, Cps: []uint32{16}}, {Cp: 1, Cps: []uint32{16}}, {Cp: 1, Dats: []uint32{16}, Cps: []uint32{}}, {Cp: 1, Dats: []uint32{16}}} {
		if s, err := root.Encode(r); root.Right(r) || s != "" || err != api.ErrRoot {
			t.Errorf("%v: %.20q, %d", r, s, err)
		}
	}
}

// R4: what a call answers hangs on its arguments alone.
func TestTwice(t *testing.T) {
	for range 3 {
		for _, r := range rightOnes() {
			one, _ := root.Encode(r)
			root.Encode(api.Root{})
			root.Decode("x")
			two, _ := root.Encode(r)
			if one != two {
				t.Errorf("Encode(%v) answers two contents", r)
			}
			wantDecode(t, one, r)
		}
	}
}
