package bmap_test

import (
	"encoding/binary"
	"math"
	"math/rand/v2"
	"slices"
	"strings"
	"testing"
	"unsafe"

	"nautilus/api"
	"nautilus/bmap"
)

const (
	content = 508     // bytes of a block of a map
	per     = 127     // numbers in it
	biggest = 8193532 // the greatest size
)

// blocksOf is how many blocks a size has, by a number that does not wrap round.
func blocksOf(size uint32) int {
	return int((int64(size) + 507) / 508)
}

// countOf is how many blocks a map of a size that may be has.
func countOf(size uint32) int {
	switch blocks := blocksOf(size); {
	case blocks <= 6:
		return 0
	case blocks <= per:
		return 1
	default:
		return 1 + (blocks+per-1)/per
	}
}

// blockOf is a block of these numbers, worked out without package num.
func blockOf(numbers ...uint32) string {
	b := make([]byte, content)
	for place, number := range numbers {
		binary.LittleEndian.PutUint32(b[4*place:], number)
	}
	return string(b)
}

// laid is the map of these numbers, of a size that they are right for.
func laid(vbns []uint32, ids []uint32) ([6]uint32, []string) {
	var m [6]uint32
	if len(vbns) <= 6 {
		copy(m[:], vbns)
		return m, nil
	}
	m[0] = ids[0]
	if len(vbns) <= per {
		return m, []string{blockOf(vbns...)}
	}
	blocks := []string{blockOf(ids[1:]...)}
	for at := 0; at < len(vbns); at += per {
		blocks = append(blocks, blockOf(vbns[at:min(at+per, len(vbns))]...))
	}
	return m, blocks
}

// numbersFrom are so many numbers, each another one, from that one on, each byte of them told apart.
func numbersFrom(first uint32, count int) []uint32 {
	out := make([]uint32, count)
	for i := range out {
		out[i] = first + uint32(i)*0x01010101
	}
	return out
}

// idsFrom are numbers for each block of a map of a size, none of them 0.
func idsFrom(first uint32, size uint32) []uint32 {
	out := make([]uint32, countOf(size))
	for i := range out {
		out[i] = first + uint32(i)
	}
	return out
}

// edges are sizes at which what a map has changes, and beside them.
func edges() []uint32 {
	var out []uint32
	for _, blocks := range []int{0, 1, 2, 5, 6, 7, 8, 126, 127, 128, 129, 253, 254, 255, 380, 381, 382, 394, 395, 16001, 16002, 16003, 16127, 16128, 16129} {
		if blocks == 0 {
			out = append(out, 0)
			continue
		}
		last := uint32(508 * blocks)
		out = append(out, last-507, last-506, last-1, last)
	}
	return out
}

// tooBig are sizes that no file has.
var tooBig = []uint32{biggest + 1, biggest + 2, biggest + 508, biggest + 509, 1 << 23, 1 << 24, 1 << 31, math.MaxUint32 - 508, math.MaxUint32 - 507, math.MaxUint32 - 1, math.MaxUint32}

// changed is a text with another byte at a place.
func changed(s string, at int, c byte) string {
	return s[:at] + string([]byte{c}) + s[at+1:]
}

// with is a list with another element at a place.
func with[T any](l []T, at int, e T) []T {
	out := slices.Clone(l)
	out[at] = e
	return out
}

func wantWay(t *testing.T, size uint32, i int, want ...int) {
	t.Helper()
	if got, err := bmap.Way(size, i); !slices.Equal(got, want) || err != api.OK {
		t.Errorf("Way(%d, %d) = %v, %d; want %v, 0", size, i, got, err, want)
	}
}

func refuseWay(t *testing.T, size uint32, i int) {
	t.Helper()
	if got, err := bmap.Way(size, i); len(got) != 0 || err != api.ErrMap {
		t.Errorf("Way(%d, %d) = %v, %d; want nothing, 130", size, i, got, err)
	}
}

func wantLay(t *testing.T, size uint32, vbns []uint32, ids []uint32) ([6]uint32, []string) {
	t.Helper()
	m, blocks, err := bmap.Lay(size, vbns, ids)
	wantMap, wantBlocks := laid(vbns, ids)
	if m != wantMap || !slices.Equal(blocks, wantBlocks) || err != api.OK {
		t.Errorf("Lay(%d) of %d numbers and %d ids = %v, %d blocks, %d; want %v, %d blocks, 0", size, len(vbns), len(ids), m, len(blocks), err, wantMap, len(wantBlocks))
	}
	return m, blocks
}

func refuseLay(t *testing.T, size uint32, vbns []uint32, ids []uint32) {
	t.Helper()
	if m, blocks, err := bmap.Lay(size, vbns, ids); m != [6]uint32{} || len(blocks) != 0 || err != api.ErrMap {
		t.Errorf("Lay(%d) of %d numbers and %d ids = %v, %d blocks, %d; want nothing, 130", size, len(vbns), len(ids), m, len(blocks), err)
	}
}

func wantJoin(t *testing.T, size uint32, m [6]uint32, blocks []string, want []uint32) {
	t.Helper()
	if got, err := bmap.Join(size, m, blocks); !slices.Equal(got, want) || err != api.OK {
		t.Errorf("Join(%d, %v) of %d blocks = %d numbers, %d; want %d, 0", size, m, len(blocks), len(got), err, len(want))
	}
}

func refuseJoin(t *testing.T, size uint32, m [6]uint32, blocks []string) {
	t.Helper()
	if got, err := bmap.Join(size, m, blocks); len(got) != 0 || err != api.ErrMap {
		t.Errorf("Join(%d, %v) of %d blocks = %d numbers, %d; want nothing, 130", size, m, len(blocks), len(got), err)
	}
}

func wantBelow(t *testing.T, size uint32, top string, want []uint32) {
	t.Helper()
	if got, err := bmap.Below(size, top); !slices.Equal(got, want) || err != api.OK {
		t.Errorf("Below(%d) = %v, %d; want %v, 0", size, got, err, want)
	}
}

func refuseBelow(t *testing.T, size uint32, top string) {
	t.Helper()
	if got, err := bmap.Below(size, top); len(got) != 0 || err != api.ErrMap {
		t.Errorf("Below(%d) of %d bytes = %v, %d; want nothing, 130", size, len(top), got, err)
	}
}

// P13.1: how many blocks a map has, as the chapter's examples have it, and where that changes.
func TestCount(t *testing.T) {
	for _, x := range []struct {
		size uint32
		want int
	}{
		{0, 0}, {1, 0}, {508, 0}, {3048, 0},
		{3049, 1}, {3556, 1}, {64515, 1}, {64516, 1},
		{64517, 3}, {65024, 3}, {129032, 3}, {129033, 4}, {193548, 4}, {193549, 5}, {200000, 5},
		{8129016, 127}, {8129017, 128}, {8193531, 128}, {8193532, 128},
	} {
		if got := bmap.Count(x.size); got != x.want {
			t.Errorf("Count(%d) = %d; want %d", x.size, got, x.want)
		}
	}
	for _, size := range tooBig {
		if got := bmap.Count(size); got != 0 {
			t.Errorf("Count(%d) = %d; want 0", size, got)
		}
	}
}

// P13.1: at the first and the last size of each count of blocks.
func TestCountAtEachBlock(t *testing.T) {
	for blocks := 1; blocks <= 16129; blocks++ {
		last := uint32(508 * blocks)
		for _, size := range []uint32{last - 507, last} {
			if got, want := bmap.Count(size), countOf(last); got != want {
				t.Errorf("Count(%d) = %d; want %d", size, got, want)
			}
		}
	}
}

// P13.1: the places to a number, as the chapter's examples have them, and at the edges of blocks of the map.
func TestWay(t *testing.T) {
	wantWay(t, 508, 0, 0)
	wantWay(t, 3048, 0, 0)
	wantWay(t, 3048, 5, 5)
	wantWay(t, 3049, 0, 0, 0)
	wantWay(t, 3556, 6, 0, 6)
	wantWay(t, 64516, 126, 0, 126)
	wantWay(t, 64517, 0, 0, 0, 0)
	wantWay(t, 65024, 126, 0, 0, 126)
	wantWay(t, 65024, 127, 0, 1, 0)
	wantWay(t, biggest, 254, 0, 2, 0)
	wantWay(t, biggest, 16128, 0, 126, 126)
}

// P13.1: of all blocks of sizes at the edges, counted on place by place.
func TestWayOfEachBlock(t *testing.T) {
	for _, size := range edges() {
		blocks := blocksOf(size)
		upper, lower := 0, 0
		for i := range blocks {
			switch {
			case blocks <= 6:
				wantWay(t, size, i, i)
			case blocks <= per:
				wantWay(t, size, i, 0, i)
			default:
				wantWay(t, size, i, 0, upper, lower)
			}
			if lower++; lower == per {
				upper, lower = upper+1, 0
			}
		}
	}
}

// P13.1: blocks that a size does not have, and sizes that no file has.
func TestWayRefuses(t *testing.T) {
	for _, size := range edges() {
		blocks := blocksOf(size)
		for _, i := range []int{blocks, blocks + 1, blocks + per, -1, -2, -per, 16129, 1 << 32, -1 << 32, math.MaxInt, math.MinInt} {
			refuseWay(t, size, i)
		}
	}
	for _, size := range tooBig {
		for _, i := range []int{-1, 0, 1, 5, 6, 126, 127, 16128, 16129, math.MaxInt, math.MinInt} {
			refuseWay(t, size, i)
		}
	}
}

// P13.1: a way leads to its block's number in what was laid.
func TestWayLeadsThere(t *testing.T) {
	for _, size := range edges() {
		vbns := numbersFrom(0x01020304, blocksOf(size))
		m, blocks, _ := bmap.Lay(size, vbns, idsFrom(70000, size))
		for i := 0; i < len(vbns); i += 1 + len(vbns)/300 {
			way, _ := bmap.Way(size, i)
			if got := follow(m, blocks, way); got != vbns[i] {
				t.Fatalf("Way(%d, %d) = %v leads to %d; want %d", size, i, way, got, vbns[i])
			}
		}
	}
}

// follow is the number that stands where a way leads.
func follow(m [6]uint32, blocks []string, way []int) uint32 {
	switch len(way) {
	case 1:
		return m[way[0]]
	case 2:
		return binary.LittleEndian.Uint32([]byte(blocks[0])[4*way[1]:])
	default:
		return binary.LittleEndian.Uint32([]byte(blocks[1+way[1]])[4*way[2]:])
	}
}

// P13.2: a map of each depth, its bytes written out.
func TestLay(t *testing.T) {
	m, blocks, err := bmap.Lay(1000, []uint32{0, 4}, nil)
	if m != [6]uint32{0, 4} || len(blocks) != 0 || err != api.OK {
		t.Errorf("Lay of two = %v, %q, %d", m, blocks, err)
	}
	m, blocks, err = bmap.Lay(0, nil, nil)
	if m != [6]uint32{} || len(blocks) != 0 || err != api.OK {
		t.Errorf("Lay of none = %v, %q, %d", m, blocks, err)
	}
	want := "\x01\x00\x00\x00\x00\x02\x00\x00\x00\x00\x03\x00\x00\x00\x00\x04\x00\x00\x00\x00\xff\xff\xff\xff\x14\x13\x12\x11" + strings.Repeat("\x00", 480)
	m, blocks, err = bmap.Lay(3556, []uint32{1, 1 << 9, 3 << 16, 4 << 24, 0, math.MaxUint32, 0x11121314}, []uint32{9})
	if m != [6]uint32{9} || !slices.Equal(blocks, []string{want}) || err != api.OK {
		t.Errorf("Lay of seven = %v, %q, %d", m, blocks, err)
	}
	vbns := make([]uint32, 128)
	vbns[0], vbns[126], vbns[127] = 21, 22, 23
	zeros := func(n int) string { return strings.Repeat("\x00", n) }
	m, blocks, err = bmap.Lay(64517, vbns, []uint32{31, 32, 0x33343536})
	if m != [6]uint32{31} || !slices.Equal(blocks, []string{
		"\x20\x00\x00\x00\x36\x35\x34\x33" + zeros(500),
		"\x15" + zeros(503) + "\x16" + zeros(3),
		"\x17" + zeros(507),
	}) || err != api.OK {
		t.Errorf("Lay of 128 = %v, %q, %d", m, blocks, err)
	}
}

// P13.2: at the edges, of numbers that are all holes, or the greatest, or each another one; of ids that are the greatest, or the same.
func TestLayAtEdges(t *testing.T) {
	for _, size := range edges() {
		blocks, count := blocksOf(size), countOf(size)
		wantLay(t, size, numbersFrom(0x01020304, blocks), idsFrom(1, size))
		wantLay(t, size, make([]uint32, blocks), idsFrom(1<<31, size))
		wantLay(t, size, slices.Repeat([]uint32{math.MaxUint32}, blocks), slices.Repeat([]uint32{math.MaxUint32}, count))
	}
}

// P13.2: too few numbers, or too many; ids likewise.
func TestLayRefusesCounts(t *testing.T) {
	for _, size := range edges() {
		vbns, ids := numbersFrom(1, blocksOf(size)), idsFrom(1, size)
		more, moreIDs := append(slices.Clone(vbns), 1), append(slices.Clone(ids), 1)
		refuseLay(t, size, more, ids)
		refuseLay(t, size, more, moreIDs)
		refuseLay(t, size, vbns, moreIDs)
		refuseLay(t, size, vbns, append(slices.Clone(ids), 0))
		refuseLay(t, size, append(slices.Clone(vbns), 0), ids)
		if len(vbns) > 0 {
			refuseLay(t, size, vbns[1:], ids)
			refuseLay(t, size, nil, ids)
		}
		if len(ids) > 0 {
			refuseLay(t, size, vbns, ids[1:])
			refuseLay(t, size, vbns, nil)
			refuseLay(t, size, nil, nil)
		}
	}
}

// P13.2: an id that is 0, at each place.
func TestLayRefusesNoughts(t *testing.T) {
	for _, size := range []uint32{3049, 64516, 64517, 200000, biggest} {
		vbns, ids := numbersFrom(1, blocksOf(size)), idsFrom(1, size)
		for at := range ids {
			refuseLay(t, size, vbns, with(ids, at, 0))
		}
		refuseLay(t, size, vbns, make([]uint32, len(ids)))
	}
}

// P13.2: sizes that no file has.
func TestLayRefusesSizes(t *testing.T) {
	for _, size := range tooBig {
		refuseLay(t, size, nil, nil)
		refuseLay(t, size, numbersFrom(1, 16129), idsFrom(1, biggest))
		refuseLay(t, size, numbersFrom(1, 16129), nil)
		if blocks := blocksOf(size); blocks < 40000 {
			refuseLay(t, size, numbersFrom(1, blocks), nil)
			refuseLay(t, size, numbersFrom(1, blocks), slices.Repeat([]uint32{5}, 1+(blocks+per-1)/per))
		}
	}
}

// P13.3: all numbers of a block, whatever they are.
func TestNumbers(t *testing.T) {
	for _, want := range [][]uint32{make([]uint32, per), numbersFrom(0x01020304, per), slices.Repeat([]uint32{math.MaxUint32}, per)} {
		if got, err := bmap.Numbers(blockOf(want...)); !slices.Equal(got, want) || err != api.OK {
			t.Errorf("Numbers = %v, %d; want %v, 0", got, err, want)
		}
	}
	for at := range content {
		for _, c := range []byte{1, 127, 128, 255} {
			want := make([]uint32, per)
			want[at/4] = uint32(c) << (8 * (at % 4))
			if got, err := bmap.Numbers(changed(blockOf(), at, c)); !slices.Equal(got, want) || err != api.OK {
				t.Errorf("Numbers with %d at %d = %v, %d; want %v, 0", c, at, got, err, want)
			}
		}
	}
}

// P13.3: texts that are no blocks.
func TestNumbersRefuses(t *testing.T) {
	for size := range 1100 {
		for _, b := range []string{"\x00", "\x01"} {
			got, err := bmap.Numbers(strings.Repeat(b, size))
			if size == content {
				if len(got) != per || err != api.OK {
					t.Errorf("Numbers of a block = %d, %d", len(got), err)
				}
			} else if len(got) != 0 || err != api.ErrMap {
				t.Errorf("Numbers of %d bytes = %v, %d; want nothing, 130", size, got, err)
			}
		}
	}
	if got, err := bmap.Numbers(strings.Repeat("\x00", 1<<20)); len(got) != 0 || err != api.ErrMap {
		t.Errorf("Numbers of 2^20 bytes = %v, %d; want nothing, 130", got, err)
	}
}

// P13.3: the lower ones' numbers, of as many as a size has.
func TestBelow(t *testing.T) {
	for _, size := range edges() {
		if blocksOf(size) <= per {
			continue
		}
		for _, ids := range [][]uint32{idsFrom(1, size), idsFrom(1<<31, size), slices.Repeat([]uint32{math.MaxUint32}, countOf(size)), slices.Repeat([]uint32{1 << 24}, countOf(size))} {
			wantBelow(t, size, blockOf(ids[1:]...), ids[1:])
		}
	}
	wantBelow(t, 64517, blockOf(6, 7), []uint32{6, 7})
	wantBelow(t, 129033, blockOf(6, 7, 1), []uint32{6, 7, 1})
}

// P13.3: a number that is 0 among the lower ones, and one that is not behind them, at each place.
func TestBelowRefusesNumbers(t *testing.T) {
	for _, size := range []uint32{64517, 129032, 129033, 200000, 8129016, 8129017, biggest} {
		ids := idsFrom(5, size)[1:]
		top := blockOf(ids...)
		for at := range ids {
			refuseBelow(t, size, blockOf(with(ids, at, 0)...))
		}
		for at := 4 * len(ids); at < content; at++ {
			refuseBelow(t, size, changed(top, at, 1))
			refuseBelow(t, size, changed(top, at, 255))
		}
		refuseBelow(t, size, blockOf())
		refuseBelow(t, size, blockOf(ids[1:]...))
	}
}

// P13.3: other depths have no lower ones, nor have sizes that no file has; a top has 508 bytes.
func TestBelowRefusesSizes(t *testing.T) {
	tops := []string{"", blockOf(), blockOf(1), blockOf(1, 2), blockOf(numbersFrom(1, per)...)}
	sizes := slices.Clone(tooBig)
	for _, size := range edges() {
		if blocksOf(size) <= per {
			sizes = append(sizes, size)
		}
	}
	for _, size := range sizes {
		for _, top := range tops {
			refuseBelow(t, size, top)
		}
	}
	for _, size := range []uint32{64517, biggest} {
		top := blockOf(idsFrom(5, size)[1:]...)
		for _, s := range []string{"", top[:4], top[:8], top[:504], top[:507], top + "\x00", top + "\x00\x00\x00\x00", top + top, top[4:]} {
			refuseBelow(t, size, s)
		}
	}
}

// P13.3: the numbers of a map of each depth.
func TestJoin(t *testing.T) {
	wantJoin(t, 0, [6]uint32{}, nil, nil)
	wantJoin(t, 0, [6]uint32{}, []string{}, nil)
	wantJoin(t, 1000, [6]uint32{0, 4}, nil, []uint32{0, 4})
	wantJoin(t, 3048, [6]uint32{1, 2, 3, 0, 5, math.MaxUint32}, nil, []uint32{1, 2, 3, 0, 5, math.MaxUint32})
	wantJoin(t, 3556, [6]uint32{8}, []string{blockOf(1, 0, 3, 4, 5, 6, 0)}, []uint32{1, 0, 3, 4, 5, 6, 0})
	v := numbersFrom(9, 128)
	wantJoin(t, 65024, [6]uint32{8}, []string{blockOf(1, 1), blockOf(v[:127]...), blockOf(v[127])}, v)
	for _, size := range edges() {
		blocks := blocksOf(size)
		for _, vbns := range [][]uint32{numbersFrom(0x01020304, blocks), make([]uint32, blocks), slices.Repeat([]uint32{math.MaxUint32}, blocks)} {
			m, l := laid(vbns, idsFrom(1, size))
			wantJoin(t, size, m, l, vbns)
		}
	}
}

// P13.3: maps that no inode of that size has.
func TestJoinRefusesMaps(t *testing.T) {
	for _, size := range edges() {
		blocks := blocksOf(size)
		m, l := laid(numbersFrom(3, blocks), idsFrom(1, size))
		first := 1
		if blocks <= 6 {
			first = blocks
		} else {
			none := m
			none[0] = 0
			refuseJoin(t, size, none, l)
			none[1] = 1
			refuseJoin(t, size, none, l)
		}
		for at := first; at < 6; at++ {
			for _, number := range []uint32{1, 1 << 31, math.MaxUint32} {
				other := m
				other[at] = number
				refuseJoin(t, size, other, l)
			}
		}
	}
}

// P13.3: sizes that no file has, though all else is as of one.
func TestJoinRefusesSizes(t *testing.T) {
	m, l := laid(numbersFrom(3, 16129), idsFrom(1, biggest))
	more := append(slices.Clone(l), blockOf(1))
	for _, size := range tooBig {
		refuseJoin(t, size, m, l)
		refuseJoin(t, size, m, more)
		refuseJoin(t, size, m, nil)
		refuseJoin(t, size, [6]uint32{}, nil)
	}
}

// P13.3: too few blocks, or too many, or those of another count of lower ones.
func TestJoinRefusesCounts(t *testing.T) {
	for _, size := range edges() {
		m, l := laid(numbersFrom(3, blocksOf(size)), idsFrom(1, size))
		refuseJoin(t, size, m, append(slices.Clone(l), blockOf()))
		refuseJoin(t, size, m, append(slices.Clone(l), ""))
		refuseJoin(t, size, m, append([]string{blockOf(1, 2)}, l...))
		if len(l) > 0 {
			refuseJoin(t, size, m, nil)
			refuseJoin(t, size, m, l[:len(l)-1])
			refuseJoin(t, size, m, l[1:])
		}
	}
	m, l := laid(numbersFrom(3, 254), idsFrom(1, 129032)) // two lower ones, full
	refuseJoin(t, 129033, m, l)
	refuseJoin(t, 129033, m, append(slices.Clone(l), blockOf(5)))
	refuseJoin(t, 129032, m, []string{blockOf(1, 2, 3), l[1], l[2]})
	refuseJoin(t, 64517, m, l)
	refuseJoin(t, 64516, m, l)
	refuseJoin(t, 64516, m, l[1:])
}

// P13.3: each block has 508 bytes.
func TestJoinRefusesLengths(t *testing.T) {
	for _, size := range []uint32{3049, 64516, 64517, 129032, 200000, biggest} {
		m, l := laid(numbersFrom(3, blocksOf(size)), idsFrom(1, size))
		for at, block := range l {
			for _, s := range []string{"", block[:4], block[:504], block[:507], block + "\x00", block + "\x00\x00\x00\x00", block + block} {
				refuseJoin(t, size, m, with(l, at, s))
			}
		}
	}
}

// P13.3: behind the last number all is 0, and a top is one of the size.
func TestJoinRefusesNumbers(t *testing.T) {
	for _, size := range []uint32{3049, 3556, 64008, 64516, 64517, 65024, 128524, 129032, 129033, 200000, 8193024, biggest} {
		blocks := blocksOf(size)
		m, l := laid(numbersFrom(3, blocks), idsFrom(5, size))
		last := len(l) - 1
		behind := 4 * (blocks - per*max(last-1, 0))
		for at := behind; at < content; at++ {
			refuseJoin(t, size, m, with(l, last, changed(l[last], at, 1)))
			refuseJoin(t, size, m, with(l, last, changed(l[last], at, 255)))
		}
		if last == 0 {
			continue
		}
		ids := idsFrom(5, size)[1:]
		for at := range ids {
			refuseJoin(t, size, m, with(l, 0, blockOf(with(ids, at, 0)...)))
		}
		for at := 4 * len(ids); at < content; at++ {
			refuseJoin(t, size, m, with(l, 0, changed(l[0], at, 1)))
		}
	}
}

// P13.3, T6: with any one byte of a block changed, what is read is laid as just that, and what is not read is laid of no numbers.
func TestJoinReadsOneForm(t *testing.T) {
	for _, size := range []uint32{3556, 64008, 64516, 65024, 129032, 129033} {
		blocks := blocksOf(size)
		m, l := laid(numbersFrom(3, blocks), idsFrom(5, size))
		for which := range l {
			for at := range content {
				for _, c := range []byte{0, 1, 128, 255} {
					other := with(l, which, changed(l[which], at, c))
					vbns, ids := plainJoin(blocks, m[0], other)
					wantMap, want := laid(vbns, ids)
					if wantMap == m && slices.Equal(want, other) && !slices.Contains(ids, 0) {
						wantJoin(t, size, m, other, vbns)
					} else {
						refuseJoin(t, size, m, other)
					}
				}
			}
		}
	}
}

// plainJoin are the numbers, and the ids, that stand in blocks, whether they are right or not.
func plainJoin(blocks int, first uint32, l []string) ([]uint32, []uint32) {
	numbers := func(block string, count int) []uint32 {
		out := make([]uint32, count)
		for i := range out {
			out[i] = binary.LittleEndian.Uint32([]byte(block)[4*i:])
		}
		return out
	}
	ids := []uint32{first}
	if len(l) > 1 {
		ids = append(ids, numbers(l[0], len(l)-1)...)
		l = l[1:]
	}
	var vbns []uint32
	for i, block := range l {
		vbns = append(vbns, numbers(block, min(blocks-per*i, per))...)
	}
	return vbns, ids
}

// P13.4: what was laid is joined as it was, and laid so again, by ids read from the map; in no order, at sizes of any kind.
func TestMapsComeBack(t *testing.T) {
	r := rand.New(rand.NewPCG(13, 4))
	limits := []uint32{3049, 64517, 200001, biggest + 1}
	for range 400 {
		size := r.Uint32N(limits[r.IntN(len(limits))])
		vbns := make([]uint32, blocksOf(size))
		for i := range vbns {
			vbns[i] = r.Uint32() >> r.IntN(33) // a hole, if nothing is left
		}
		ids := make([]uint32, countOf(size))
		for i := range ids {
			ids[i] = 1 + r.Uint32N(math.MaxUint32)>>r.IntN(32)
		}
		m, blocks := wantLay(t, size, vbns, ids)
		wantJoin(t, size, m, blocks, vbns)
		again := idsIn(t, size, m, blocks)
		if !slices.Equal(again, ids) {
			t.Fatalf("the map of %d bytes has the ids %v; want %v", size, again, ids)
		}
		joined, _ := bmap.Join(size, m, blocks)
		m2, blocks2, err := bmap.Lay(size, joined, again)
		if m2 != m || !slices.Equal(blocks2, blocks) || err != api.OK {
			t.Fatalf("Lay of what was joined, of %d bytes, is another map, %d", size, err)
		}
	}
}

// idsIn are the ids of a map's blocks, read by the layer's own calls.
func idsIn(t *testing.T, size uint32, m [6]uint32, blocks []string) []uint32 {
	t.Helper()
	switch bmap.Count(size) {
	case 0:
		return nil
	case 1:
		return m[:1]
	}
	lower, err := bmap.Below(size, blocks[0])
	if err != api.OK {
		t.Fatalf("Below(%d) answers %d", size, err)
	}
	return append(m[:1:1], lower...)
}

// R3: what is handed in is neither written into, nor its spare room, nor kept.
func TestArgumentsStay(t *testing.T) {
	for _, size := range []uint32{0, 3048, 3049, 64516, 64517, 129033, 200000} {
		count := blocksOf(size)
		room, idRoom := numbersFrom(7, count+200), numbersFrom(9, countOf(size)+200)
		vbns, ids := room[:count], idRoom[:countOf(size)]
		m, blocks := wantLay(t, size, vbns, ids)
		if !slices.Equal(room, numbersFrom(7, count+200)) || !slices.Equal(idRoom, numbersFrom(9, countOf(size)+200)) {
			t.Fatalf("Lay(%d) wrote into what it was handed", size)
		}
		kept, keptMap := slices.Clone(blocks), m
		clear(room)
		clear(idRoom)
		if m != keptMap || !slices.Equal(blocks, kept) {
			t.Fatalf("Lay(%d) answers what it was handed", size)
		}
		got, _ := bmap.Join(size, m, blocks)
		wider := append(got, 1, 2, 3) // spare room is new memory, too
		for i := range wider {
			wider[i]++
		}
		wantJoin(t, size, keptMap, kept, numbersFrom(7, count))
	}
}

// R3: what is answered is new memory: no two answers share any, nor do those within one.
func TestAnswersAreNewMemory(t *testing.T) {
	top := blockOf(6, 7)
	for _, ask := range []func() []uint32{
		func() []uint32 { l, _ := bmap.Numbers(top); return l },
		func() []uint32 { l, _ := bmap.Below(64517, top); return l },
		func() []uint32 { l, _ := bmap.Join(1000, [6]uint32{6, 7}, nil); return l },
		func() []uint32 { l, _ := bmap.Join(3049, [6]uint32{6}, []string{top}); return l },
	} {
		a, b := ask(), ask()
		a[0] = 99
		if b[0] == 99 || ask()[0] != 6 {
			t.Error("two answers share memory")
		}
	}
	a, _ := bmap.Way(65024, 127)
	a[1] = 99
	wantWay(t, 65024, 127, 0, 1, 0)
	_, blocks, _ := bmap.Lay(129032, slices.Repeat([]uint32{5}, 254), []uint32{5, 5, 5})
	_, others, _ := bmap.Lay(129032, slices.Repeat([]uint32{5}, 254), []uint32{5, 5, 5})
	starts := map[*byte]int{}
	for _, block := range append(blocks, others...) {
		starts[unsafe.StringData(block)]++
	}
	if len(starts) != 6 {
		t.Errorf("six blocks lie at %d places", len(starts))
	}
}
