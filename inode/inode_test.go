package inode_test

import (
	"encoding/binary"
	"math"
	"math/rand/v2"
	"strings"
	"testing"
	"unsafe"

	"nautilus/api"
	"nautilus/inode"
)

const (
	greatest = 1<<48 - 1 // the greatest Time
	biggest  = 8193532   // the greatest Size
)

// blocksOf is how many blocks a size has, by a number that does not wrap round.
func blocksOf(size uint32) int {
	return int((int64(size) + 507) / 508)
}

func depthOf(size uint32) int {
	switch blocks := blocksOf(size); {
	case blocks > 127:
		return 2
	case blocks > 6:
		return 1
	}
	return 0
}

// bytesOf are these numbers' bytes, whether they make a right inode or not, worked out without package num.
func bytesOf(n api.Inode) string {
	var time [8]byte
	binary.LittleEndian.PutUint64(time[:], n.Time)
	b := []byte{byte(n.Kind)}
	b = binary.LittleEndian.AppendUint16(b, n.Mode)
	b = binary.LittleEndian.AppendUint16(b, n.Links)
	b = binary.LittleEndian.AppendUint32(b, n.Size)
	b = append(b, time[:6]...)
	b = append(b, byte(n.Depth))
	for _, number := range n.Map {
		b = binary.LittleEndian.AppendUint32(b, number)
	}
	return string(append(b, 0, 0))
}

// changed is a text with another byte at a place.
func changed(s string, at int, c byte) string {
	return s[:at] + string([]byte{c}) + s[at+1:]
}

// but is an inode of which something is another.
func but(n api.Inode, change func(*api.Inode)) api.Inode {
	change(&n)
	return n
}

// small, middle and large are right ones, of each depth.
func small() api.Inode {
	return api.Inode{Kind: api.File, Mode: 420, Links: 1, Size: 600, Time: 5, Map: [6]uint32{3, 4}}
}

func middle() api.Inode {
	return api.Inode{Kind: api.Dir, Mode: 493, Links: 1, Size: 20000, Time: 1 << 40, Depth: 1, Map: [6]uint32{77}}
}

func large() api.Inode {
	return api.Inode{Kind: api.Link, Mode: 511, Links: 1000, Size: 200000, Time: greatest, Depth: 2, Map: [6]uint32{1859}}
}

func rightOnes() []api.Inode {
	out := []api.Inode{{}, small(), middle(), large()}
	for kind := 1; kind <= 3; kind++ {
		out = append(out, api.Inode{Kind: kind})
	}
	return append(out,
		api.Inode{Kind: 1, Mode: 4095, Links: 65535, Size: 3048, Time: greatest, Map: [6]uint32{math.MaxUint32, math.MaxUint32, math.MaxUint32, math.MaxUint32, math.MaxUint32, math.MaxUint32}},
		api.Inode{Kind: 1, Size: 3048},                                   // holes alone
		api.Inode{Kind: 1, Size: 3048, Map: [6]uint32{5: 9}},             // holes ahead of the last one
		api.Inode{Kind: 1, Size: 3048, Map: [6]uint32{7, 7, 7, 7, 7, 7}}, // numbers may be the same
		api.Inode{Kind: 3, Mode: 1, Size: 508, Map: [6]uint32{1 << 31}},
		api.Inode{Kind: 2, Size: 1, Time: 1 << 47, Map: [6]uint32{255}},
		api.Inode{Kind: 1, Size: 3049, Depth: 1, Map: [6]uint32{1}},
		api.Inode{Kind: 1, Size: 64516, Depth: 1, Map: [6]uint32{math.MaxUint32}},
		api.Inode{Kind: 1, Size: 64517, Depth: 2, Map: [6]uint32{256}},
		api.Inode{Kind: 3, Mode: 4095, Links: 65535, Size: biggest, Time: greatest, Depth: 2, Map: [6]uint32{math.MaxUint32}},
	)
}

// wrongInBytes are wrong ones whose numbers their bytes have room for.
func wrongInBytes() []api.Inode {
	out := []api.Inode{{Mode: 1}, {Links: 1}, {Size: 1}, {Time: 1}, {Depth: 1}, {Depth: 2}, {Size: 3049, Depth: 1, Map: [6]uint32{1}}}
	for place := range 6 {
		out = append(out, but(api.Inode{}, func(n *api.Inode) { n.Map[place] = 1 })) // of the kind 0, but not free
	}
	for _, n := range rightOnes()[1:] {
		for _, kind := range []int{0, 4, 5, 127, 128, 255} {
			out = append(out, but(n, func(n *api.Inode) { n.Kind, n.Mode = kind, 1 }))
		}
		for _, mode := range []uint16{4096, 4097, 8191, 1 << 15, 65535} {
			out = append(out, but(n, func(n *api.Inode) { n.Mode = mode }))
		}
		for _, depth := range []int{0, 1, 2, 3, 4, 128, 255} {
			if depth != depthOf(n.Size) {
				out = append(out, but(n, func(n *api.Inode) { n.Depth = depth }))
			}
		}
		for place := max(1, blocksOf(n.Size)); place < 6; place++ {
			out = append(out, but(n, func(n *api.Inode) { n.Map[place] = 1 }), but(n, func(n *api.Inode) { n.Map[place] = 1 << 31 }))
		}
		if n.Depth > 0 {
			out = append(out, but(n, func(n *api.Inode) { n.Map[0] = 0 }), but(n, func(n *api.Inode) { n.Map[0], n.Map[1] = 0, 1 }))
			for place := 1; place < 6; place++ {
				out = append(out, but(n, func(n *api.Inode) { n.Map[place] = 1 }), but(n, func(n *api.Inode) { n.Map[place] = math.MaxUint32 }))
			}
		}
	}
	for _, size := range []uint32{biggest + 1, biggest + 508, 1 << 23, 1 << 24, 1 << 31, math.MaxUint32 - 508, math.MaxUint32} {
		out = append(out, but(large(), func(n *api.Inode) { n.Size = size }))
		out = append(out, but(small(), func(n *api.Inode) { n.Size = size }))
	}
	return append(out, api.Inode{Kind: 1, Map: [6]uint32{1}})
}

// wrongOnes are these, and others whose bytes were those of a right one, if numbers were cut.
func wrongOnes() []api.Inode {
	out := wrongInBytes()
	for _, n := range rightOnes()[1:] {
		for _, kind := range []int{-1, -3, -255, 256, 256 + n.Kind, n.Kind - 256, 1<<32 + n.Kind, math.MaxInt, math.MinInt} {
			out = append(out, but(n, func(n *api.Inode) { n.Kind = kind }))
		}
		for _, depth := range []int{-1, -2, n.Depth + 256, n.Depth - 256, 1<<32 + n.Depth, math.MaxInt, math.MinInt} {
			out = append(out, but(n, func(n *api.Inode) { n.Depth = depth }))
		}
		for _, time := range []uint64{greatest + 1, greatest + 2, 1<<48 + n.Time, 1 << 63, math.MaxUint64} {
			out = append(out, but(n, func(n *api.Inode) { n.Time = time }))
		}
	}
	return append(out, api.Inode{Time: 1 << 48}, api.Inode{Kind: 256}, api.Inode{Kind: -1}, api.Inode{Depth: 256}, api.Inode{Depth: -1})
}

func refuseDecode(t *testing.T, s string) {
	t.Helper()
	if got, err := inode.Decode(s); got != (api.Inode{}) || err != api.ErrInode {
		t.Errorf("Decode of %d bytes, %.42q = %v, %d; want nothing, 100", len(s), s, got, err)
	}
}

func wantDecode(t *testing.T, s string, want api.Inode) {
	t.Helper()
	if got, err := inode.Decode(s); got != want || err != api.OK {
		t.Errorf("Decode(%q) = %v, %d; want %v, 0", s, got, err, want)
	}
}

func wantShape(t *testing.T, size uint32, blocks int, depth int) {
	t.Helper()
	if got := inode.Blocks(size); got != blocks {
		t.Errorf("Blocks(%d) = %d; want %d", size, got, blocks)
	}
	if got := inode.Depth(size); got != depth {
		t.Errorf("Depth(%d) = %d; want %d", size, got, depth)
	}
}

// P10.1: how many blocks a size has, and its depth, as the chapter's examples have them, and at the edges.
func TestBlocksAndDepth(t *testing.T) {
	wantShape(t, 0, 0, 0)
	wantShape(t, 1, 1, 0)
	wantShape(t, 507, 1, 0)
	wantShape(t, 508, 1, 0)
	wantShape(t, 509, 2, 0)
	wantShape(t, 2541, 6, 0)
	wantShape(t, 3048, 6, 0)
	wantShape(t, 3049, 7, 1)
	wantShape(t, 64008, 126, 1)
	wantShape(t, 64009, 127, 1)
	wantShape(t, 64516, 127, 1)
	wantShape(t, 64517, 128, 2)
	wantShape(t, 200000, 394, 2)
	wantShape(t, biggest, 16129, 2)
	wantShape(t, biggest+1, 16130, 2)
	wantShape(t, 1<<31, 4227331, 2)
	wantShape(t, math.MaxUint32-508, 8454660, 2)
	wantShape(t, math.MaxUint32, 8454661, 2)
}

// P10.1: at all sizes up to where the depth changes no more, and at the first and the last of all counts of blocks.
func TestBlocksAndDepthAtEachSize(t *testing.T) {
	for size := range uint32(66000) {
		wantShape(t, size, blocksOf(size), depthOf(size))
	}
	for blocks := 1; blocks <= 16200; blocks++ {
		last := uint32(508 * blocks)
		wantShape(t, last-507, blocks, depthOf(last))
		wantShape(t, last, blocks, depthOf(last))
	}
	for size := uint32(math.MaxUint32); size > math.MaxUint32-2000; size-- {
		wantShape(t, size, blocksOf(size), 2)
	}
}

// P10.1: which inodes are right.
func TestRight(t *testing.T) {
	for _, n := range rightOnes() {
		if !inode.Right(n) {
			t.Errorf("Right(%v) is false", n)
		}
	}
	for _, n := range wrongOnes() {
		if inode.Right(n) {
			t.Errorf("Right(%v) is true", n)
		}
	}
}

// P10.1: all modes, how many names soever, and all kinds near the right ones.
func TestRightAtEachMode(t *testing.T) {
	for number := range 65536 {
		if got, want := inode.Right(api.Inode{Kind: 1, Mode: uint16(number)}), number <= 4095; got != want {
			t.Errorf("Right with the mode %d is %v", number, got)
		}
		if !inode.Right(api.Inode{Kind: 3, Links: uint16(number)}) {
			t.Errorf("Right with %d names is false", number)
		}
	}
	for kind := -600; kind <= 600; kind++ {
		if got, want := inode.Right(api.Inode{Kind: kind, Mode: 1}), kind >= 1 && kind <= 3; got != want {
			t.Errorf("Right with the kind %d is %v", kind, got)
		}
	}
}

// P10.1: of each count of blocks each depth, and a number at each place of the map, alone and beside one at the place 0.
func TestRightAtEachPlace(t *testing.T) {
	for _, blocks := range []int{0, 1, 2, 3, 4, 5, 6, 7, 8, 126, 127, 128, 129, 394, 16129} {
		for _, size := range []uint32{uint32(max(508*blocks-507, 0)), uint32(508 * blocks)} {
			for depth := range 4 {
				for place := range 6 {
					alone := but(api.Inode{Kind: 1, Size: size, Depth: depth}, func(n *api.Inode) { n.Map[place] = 8 })
					beside := but(alone, func(n *api.Inode) { n.Map[0] = 5 })
					fits := depth == depthOf(size)
					wantAlone := fits && (depth == 0 && place < blocks || depth > 0 && place == 0)
					if got := inode.Right(alone); got != wantAlone {
						t.Errorf("Right(%v) is %v", alone, got)
					}
					wantBeside := fits && blocks > 0 && (place == 0 || depth == 0 && place < blocks)
					if got := inode.Right(beside); got != wantBeside {
						t.Errorf("Right(%v) is %v", beside, got)
					}
				}
				none := api.Inode{Kind: 1, Size: size, Depth: depth}
				if got, want := inode.Right(none), depth == 0 && blocks <= 6; got != want {
					t.Errorf("Right(%v) is %v", none, got)
				}
			}
		}
	}
}

// P10.1: the bytes of an inode, each place with a byte of its own.
func TestEncode(t *testing.T) {
	for _, x := range []struct {
		n    api.Inode
		want string
	}{
		{api.Inode{}, strings.Repeat("\x00", 42)},
		{small(), "\x01\xa4\x01\x01\x00\x58\x02\x00\x00\x05\x00\x00\x00\x00\x00\x00\x03\x00\x00\x00\x04" + strings.Repeat("\x00", 21)},
		{
			api.Inode{Kind: 2, Mode: 0x0f11, Links: 0x2221, Size: 0x0be8, Time: 0x464544434241, Map: [6]uint32{0x54535251, 0x64636261, 0x74737271, 0x84838281, 0x94939291, 0xa4a3a2a1}},
			"\x02\x11\x0f\x21\x22\xe8\x0b\x00\x00\x41\x42\x43\x44\x45\x46\x00\x51\x52\x53\x54\x61\x62\x63\x64\x71\x72\x73\x74\x81\x82\x83\x84\x91\x92\x93\x94\xa1\xa2\xa3\xa4\x00\x00",
		},
		{
			api.Inode{Kind: 3, Mode: 4095, Links: 65535, Size: biggest, Time: greatest, Depth: 2, Map: [6]uint32{0x04030201}},
			"\x03\xff\x0f\xff\xff\xfc\x05\x7d\x00\xff\xff\xff\xff\xff\xff\x02\x01\x02\x03\x04" + strings.Repeat("\x00", 22),
		},
	} {
		if got, err := inode.Encode(x.n); got != x.want || err != api.OK {
			t.Errorf("Encode(%v) = %q, %d; want %q, 0", x.n, got, err, x.want)
		}
	}
	for _, n := range rightOnes() {
		if got, err := inode.Encode(n); got != bytesOf(n) || err != api.OK {
			t.Errorf("Encode(%v) = %q, %d; want %q, 0", n, got, err, bytesOf(n))
		}
	}
}

// P10.1: what is no right inode has no bytes.
func TestEncodeRefuses(t *testing.T) {
	for _, n := range wrongOnes() {
		if got, err := inode.Encode(n); got != "" || err != api.ErrInode {
			t.Errorf("Encode(%v) = %q, %d; want nothing, 100", n, got, err)
		}
	}
}

// P10.1: an inode is read from its bytes, those of the free one, too.
func TestDecode(t *testing.T) {
	for _, n := range rightOnes() {
		wantDecode(t, bytesOf(n), n)
	}
	wantDecode(t, strings.Repeat("\x00", 42), api.Inode{})
}

// P10.1: bytes of numbers that make no right inode.
func TestDecodeRefusesWrongOnes(t *testing.T) {
	for _, n := range wrongInBytes() {
		refuseDecode(t, bytesOf(n))
	}
	refuseDecode(t, strings.Repeat("\xff", 42))
	refuseDecode(t, strings.Repeat("\x01", 42))
}

// P10.1: bytes that are too few or too many, though they begin or end as an inode's do.
func TestDecodeRefusesLengths(t *testing.T) {
	for _, n := range rightOnes() {
		s := bytesOf(n)
		for size := range 42 {
			refuseDecode(t, s[:size])
		}
		for _, behind := range []string{"\x00", "\x00\x00", "x", s, strings.Repeat("\x00", 466)} {
			refuseDecode(t, s+behind)
			refuseDecode(t, behind+s)
		}
		refuseDecode(t, s[1:])
		refuseDecode(t, s[:40]) // without the two bytes 0
	}
	for _, size := range []int{0, 1, 40, 41, 43, 44, 84, 504, 508, 512, 65536, 65537, 1 << 20} {
		refuseDecode(t, strings.Repeat("\x00", size))
	}
}

// P10.1: the two bytes behind the map are 0.
func TestDecodeRefusesOtherBytesBehind(t *testing.T) {
	for _, n := range rightOnes() {
		s := bytesOf(n)
		for c := 1; c < 256; c++ {
			refuseDecode(t, changed(s, 40, byte(c)))
			refuseDecode(t, changed(s, 41, byte(c)))
			refuseDecode(t, s[:40]+string([]byte{byte(c), byte(c)}))
		}
	}
}

// plainInode is what stands in 42 bytes, worked out without package num.
func plainInode(s string) api.Inode {
	b := []byte(s)
	n := api.Inode{
		Kind:  int(b[0]),
		Mode:  binary.LittleEndian.Uint16(b[1:]),
		Links: binary.LittleEndian.Uint16(b[3:]),
		Size:  binary.LittleEndian.Uint32(b[5:]),
		Time:  uint64(binary.LittleEndian.Uint32(b[9:])) | uint64(binary.LittleEndian.Uint16(b[13:]))<<32,
		Depth: int(b[15]),
	}
	for place := range n.Map {
		n.Map[place] = binary.LittleEndian.Uint32(b[16+4*place:])
	}
	return n
}

// P10.1, T6: with any one byte changed, what is read has these bytes, and what is not read is no right inode's.
func TestDecodeReadsOneForm(t *testing.T) {
	for _, n := range rightOnes() {
		for at := range 42 {
			for c := range 256 {
				s := changed(bytesOf(n), at, byte(c))
				want := plainInode(s)
				if inode.Right(want) && bytesOf(want) == s {
					wantDecode(t, s, want)
				} else {
					refuseDecode(t, s)
				}
			}
		}
	}
}

// anyInode is a right one, of numbers of any size.
func anyInode(r *rand.Rand) api.Inode {
	if r.IntN(8) == 0 {
		return api.Inode{}
	}
	limits := []uint32{1, 3049, 64517, 200001, biggest + 1}
	n := api.Inode{
		Kind:  1 + r.IntN(3),
		Mode:  uint16(r.IntN(4096)),
		Links: uint16(r.IntN(65536)),
		Size:  r.Uint32N(limits[r.IntN(len(limits))]),
		Time:  r.Uint64N(1<<48) >> r.IntN(48),
	}
	n.Depth = depthOf(n.Size)
	if n.Depth > 0 {
		n.Map[0] = 1 + r.Uint32N(math.MaxUint32)
		return n
	}
	for place := range blocksOf(n.Size) {
		n.Map[place] = r.Uint32() >> r.IntN(33) // a hole, if nothing is left
	}
	return n
}

// P10.3: an inode is read from its bytes as it was.
func TestInodesComeBack(t *testing.T) {
	r := rand.New(rand.NewPCG(10, 1))
	for range 20000 {
		n := anyInode(r)
		s, err := inode.Encode(n)
		if s != bytesOf(n) || err != api.OK {
			t.Fatalf("Encode(%v) = %q, %d", n, s, err)
		}
		wantDecode(t, s, n)
	}
}

// blockOf is a block of these inodes, and of the four bytes behind them.
func blockOf(l [12]api.Inode, behind string) string {
	out := ""
	for _, n := range l {
		out += bytesOf(n)
	}
	return out + behind
}

// twelve are right inodes, each another one.
func twelve() [12]api.Inode {
	var l [12]api.Inode
	for k := range l {
		l[k] = but(small(), func(n *api.Inode) { n.Time = uint64(100 + k) })
	}
	l[3], l[7], l[11] = middle(), large(), api.Inode{}
	return l
}

func wantGet(t *testing.T, content string, k int, want api.Inode) {
	t.Helper()
	if got, err := inode.Get(content, k); got != want || err != api.OK {
		t.Errorf("Get of %d = %v, %d; want %v, 0", k, got, err, want)
	}
}

func refuseGet(t *testing.T, content string, k int, want api.Errno) {
	t.Helper()
	if got, err := inode.Get(content, k); got != (api.Inode{}) || err != want {
		t.Errorf("Get of %d in %d bytes = %v, %d; want nothing, %d", k, len(content), got, err, want)
	}
}

func wantPut(t *testing.T, content string, k int, n api.Inode, want string) {
	t.Helper()
	if got, err := inode.Put(content, k, n); got != want || err != api.OK {
		t.Errorf("Put of %v at %d = %q, %d; want %q, 0", n, k, got, err, want)
	}
}

func refusePut(t *testing.T, content string, k int, n api.Inode, want api.Errno) {
	t.Helper()
	if got, err := inode.Put(content, k, n); got != "" || err != want {
		t.Errorf("Put of %v at %d in %d bytes = %d bytes, %d; want nothing, %d", n, k, len(content), len(got), err, want)
	}
}

// P10.2: each inode of a block is got.
func TestGet(t *testing.T) {
	l := twelve()
	for k, n := range l {
		wantGet(t, blockOf(l, "\x00\x00\x00\x00"), k, n)
		wantGet(t, strings.Repeat("\x00", 508), k, api.Inode{})
	}
}

// P10.2: neither other inodes nor the four bytes behind them have a say in it.
func TestGetAsksOneAlone(t *testing.T) {
	for k, n := range twelve() {
		junk := strings.Repeat("\xff", 508)
		content := junk[:42*k] + bytesOf(n) + junk[42*k+42:]
		wantGet(t, content, k, n)
		for other := range 12 {
			if other != k {
				refuseGet(t, content, other, api.ErrInode)
			}
		}
	}
	wantGet(t, blockOf(twelve(), "\x01\x02\x03\x04"), 11, api.Inode{})
	wantGet(t, blockOf(twelve(), "\xff\xff\xff\xff"), 0, twelve()[0])
}

// P10.2: bytes that are no inode's.
func TestGetRefusesWrongOnes(t *testing.T) {
	for i, n := range wrongInBytes() {
		l := twelve()
		l[i%12] = n
		refuseGet(t, blockOf(l, "\x00\x00\x00\x00"), i%12, api.ErrInode)
	}
	for k := range 12 {
		content := blockOf(twelve(), "\x00\x00\x00\x00")
		refuseGet(t, changed(content, 42*k+40, 1), k, api.ErrInode)
		refuseGet(t, changed(content, 42*k+41, 1), k, api.ErrInode)
	}
}

// noPlaces are numbers that no inode of a block has.
var noPlaces = []int{-1, -2, -12, 12, 13, 24, 255, 256, 508, 1 << 32, -1 << 32, math.MaxInt, math.MinInt, math.MinInt + 1, math.MaxInt/42 + 1, -(math.MaxInt/42 + 1)}

// P10.2: places and contents that are none, ahead of what stands there, and of what were to be put.
func TestBlocksRefuseArguments(t *testing.T) {
	whole, junk := blockOf(twelve(), "\x00\x00\x00\x00"), strings.Repeat("\xff", 508)
	wrong := api.Inode{Kind: 4}
	for _, k := range noPlaces {
		for _, content := range []string{whole, junk, "", whole[:504]} {
			refuseGet(t, content, k, api.ErrArg)
			refusePut(t, content, k, small(), api.ErrArg)
			refusePut(t, content, k, wrong, api.ErrArg)
		}
	}
	for _, content := range []string{"", "\x00", whole[:42], whole[:84], whole[:503], whole[:504], whole[:507], whole + "\x00", whole + "\x00\x00\x00\x00", whole + whole, junk[:507], junk + "\xff", strings.Repeat("\x00", 65536)} {
		for k := range 12 {
			refuseGet(t, content, k, api.ErrArg)
			refusePut(t, content, k, small(), api.ErrArg)
			refusePut(t, content, k, api.Inode{}, api.ErrArg)
			refusePut(t, content, k, wrong, api.ErrArg)
		}
	}
}

// P10.2: what is put stands there, at each place; all else is as it was.
func TestPut(t *testing.T) {
	for k := range 12 {
		for _, n := range rightOnes() {
			l := twelve()
			content := blockOf(l, "\x00\x00\x00\x00")
			l[k] = n
			wantPut(t, content, k, n, blockOf(l, "\x00\x00\x00\x00"))
			junk := strings.Repeat("\xff", 508)
			wantPut(t, junk, k, n, junk[:42*k]+bytesOf(n)+junk[42*k+42:])
		}
	}
	l := twelve()
	wantPut(t, blockOf(l, "\x01\x02\x03\x04"), 0, l[0], blockOf(l, "\x01\x02\x03\x04"))
}

// P10.2: what is no right inode is not put, wherever.
func TestPutRefusesWrongOnes(t *testing.T) {
	content := blockOf(twelve(), "\x00\x00\x00\x00")
	for i, n := range wrongOnes() {
		refusePut(t, content, i%12, n, api.ErrInode)
	}
}

// P10.3: what was put is got, others of its block stay: in no order, against a plain array.
func TestBlocksInNoOrder(t *testing.T) {
	r := rand.New(rand.NewPCG(10, 3))
	for range 40 {
		var l [12]api.Inode
		content := strings.Repeat("\x00", 508)
		for range 100 {
			k := r.IntN(12)
			l[k] = anyInode(r)
			got, err := inode.Put(content, k, l[k])
			if got != blockOf(l, "\x00\x00\x00\x00") || err != api.OK {
				t.Fatalf("Put of %v at %d = %d bytes, %d", l[k], k, len(got), err)
			}
			content = got
			for place, n := range l {
				wantGet(t, content, place, n)
			}
		}
	}
}

// R3: what is answered is new memory, also where nothing is another.
func TestAnswersAreNewMemory(t *testing.T) {
	content := blockOf(twelve(), "\x00\x00\x00\x00")
	for k, n := range twelve() {
		got, _ := inode.Put(content, k, n)
		if got != content || unsafe.StringData(got) == unsafe.StringData(content) {
			t.Errorf("Put at %d answers what was handed in", k)
		}
	}
	one, _ := inode.Encode(small())
	two, _ := inode.Encode(small())
	if one != two || unsafe.StringData(one) == unsafe.StringData(two) {
		t.Error("Encode answers the same memory twice")
	}
}
