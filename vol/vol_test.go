package vol_test

import (
	"bytes"
	"encoding/binary"
	"math"
	"math/rand/v2"
	"slices"
	"strings"
	"testing"
	"unsafe"

	"nautilus/api"
	"nautilus/vol"
)

const (
	greatest = 1<<48 - 1 // the greatest Time
	biggest  = 8193532   // the greatest Size
)

// text is so many bytes, of which none is 0, and those of one content are others than those of the next.
func text(count int) string {
	b := make([]byte, count)
	for i := range b {
		b[i] = byte(1 + (i+i/508)%251)
	}
	return string(b)
}

func zeros(count int) string {
	return strings.Repeat("\x00", count)
}

// changed is a text with another byte at a place.
func changed(s string, at int, c byte) string {
	return s[:at] + string([]byte{c}) + s[at+1:]
}

// with is a list with another element at a place.
func with[T any](l []T, at int, e T) []T {
	out := slices.Clone(l)
	out[at] = e
	return out
}

// blocksOf is how many blocks a size has, by a number that does not wrap round.
func blocksOf(size uint32) int {
	return int((int64(size) + 507) / 508)
}

func depthOf(size uint32) int {
	switch blocks := blocksOf(size); {
	case blocks > 127:
		return 2
	case blocks > 6:
		return 1
	}
	return 0
}

// cut are the contents of data, byte by byte.
func cut(data string) []string {
	var out []string
	var b []byte
	for i := range len(data) {
		b = append(b, data[i])
		if len(b) == 508 || i == len(data)-1 {
			out = append(out, string(b))
			b = nil
		}
	}
	return out
}

// blocked are contents with bytes 0 behind each, as blocks have them.
func blocked(contents []string) []string {
	var out []string
	for _, content := range contents {
		out = append(out, content+zeros(508-len(content)))
	}
	return out
}

// others are the numbers of the contents that are others, or none at all, told by their blocks.
func others(was string, is string) []int {
	old := blocked(cut(was))
	var out []int
	for i, block := range blocked(cut(is)) {
		if i >= len(old) || old[i] != block {
			out = append(out, i)
		}
	}
	return out
}

// bytesOf are these numbers' bytes, whether they make a right inode or not, worked out without packages num and inode.
func bytesOf(n api.Inode) string {
	var time [8]byte
	binary.LittleEndian.PutUint64(time[:], n.Time)
	b := []byte{byte(n.Kind)}
	b = binary.LittleEndian.AppendUint16(b, n.Mode)
	b = binary.LittleEndian.AppendUint16(b, n.Links)
	b = binary.LittleEndian.AppendUint32(b, n.Size)
	b = append(b, time[:6]...)
	b = append(b, byte(n.Depth))
	for _, number := range n.Map {
		b = binary.LittleEndian.AppendUint32(b, number)
	}
	return string(append(b, 0, 0))
}

// tableOf are the contents that have these inodes.
func tableOf(l []api.Inode) []string {
	var out []string
	for at := 0; at < len(l); at += 12 {
		var b bytes.Buffer
		for _, n := range l[at:min(at+12, len(l))] {
			b.WriteString(bytesOf(n))
		}
		out = append(out, b.String()+zeros(508-b.Len()))
	}
	return out
}

// mapOf is a map that a size may have, of numbers from one on.
func mapOf(size uint32, first uint32) [6]uint32 {
	var m [6]uint32
	count := blocksOf(size)
	if depthOf(size) > 0 {
		count = 1
	}
	for i := range count {
		m[i] = first + uint32(i)*0x01010101
	}
	return m
}

// made is the inode of a node, with a map.
func made(n api.Node, m [6]uint32) api.Inode {
	size := uint32(len(n.Data))
	return api.Inode{Kind: n.Kind, Mode: n.Mode, Links: n.Links, Size: size, Time: n.Time, Depth: depthOf(size), Map: m}
}

// edges are sizes at which how many blocks there are, or the depth, changes, and beside them.
var edges = []int{0, 1, 2, 507, 508, 509, 600, 1015, 1016, 1017, 2540, 2541, 3047, 3048, 3049, 3050, 3556, 64515, 64516, 64517, 64518, 65024, 199644, 199645, 199999, 200000}

// past are sizes that files of calls do not have, but inodes may.
var past = []int{200001, 200152, 200153, 1 << 20, biggest - 1, biggest}

func wantCut(t *testing.T, data string, want []string) {
	t.Helper()
	if got := vol.Cut(data); !slices.Equal(got, want) {
		t.Errorf("Cut of %d bytes: %d contents, want %d", len(data), len(got), len(want))
	}
}

func wantPaste(t *testing.T, contents []string, size uint32, want string) {
	t.Helper()
	if got, err := vol.Paste(contents, size); got != want || err != api.OK {
		t.Errorf("Paste of %d contents to %d bytes: %d bytes %.20q, %d; want %d bytes %.20q, 0", len(contents), size, len(got), got, err, len(want), want)
	}
}

func refusePaste(t *testing.T, contents []string, size uint32) {
	t.Helper()
	if got, err := vol.Paste(contents, size); got != "" || err != api.ErrVol {
		t.Errorf("Paste of %d contents to %d bytes: %d bytes, %d; want none, 154", len(contents), size, len(got), err)
	}
}

func wantChanged(t *testing.T, was string, is string, want ...int) {
	t.Helper()
	if got := vol.Changed(was, is); !slices.Equal(got, want) {
		t.Errorf("Changed of %d bytes %.20q to %d bytes %.20q: %v, want %v", len(was), was, len(is), is, got, want)
	}
}

func wantInode(t *testing.T, n api.Node, m [6]uint32, want api.Inode) {
	t.Helper()
	if got, err := vol.Inode(n, m); got != want || err != api.OK {
		t.Errorf("Inode = %v, %d; want %v, 0", got, err, want)
	}
}

func refuseInode(t *testing.T, n api.Node, m [6]uint32) {
	t.Helper()
	if got, err := vol.Inode(n, m); got != (api.Inode{}) || err != api.ErrVol {
		t.Errorf("Inode of %d, %d, %d, %d, %d bytes, with %v = %v, %d; want nothing, 154", n.Kind, n.Mode, n.Links, n.Time, len(n.Data), m, got, err)
	}
}

func wantNode(t *testing.T, n api.Inode, data string, want api.Node) {
	t.Helper()
	if got, err := vol.Node(n, data); got != want || err != api.OK {
		t.Errorf("Node of %v, with %d bytes: %d bytes, %d; want %d bytes, 0", n, len(data), len(got.Data), err, len(want.Data))
	}
}

func refuseNode(t *testing.T, n api.Inode, data string) {
	t.Helper()
	if got, err := vol.Node(n, data); got != (api.Node{}) || err != api.ErrVol {
		t.Errorf("Node of %v, with %d bytes: %d bytes, %d; want nothing, 154", n, len(data), len(got.Data), err)
	}
}

func wantTable(t *testing.T, l []api.Inode, want []string) {
	t.Helper()
	if got, err := vol.Table(l); !slices.Equal(got, want) || err != api.OK {
		t.Errorf("Table of %d: %d contents, %d; want %d, 0", len(l), len(got), err, len(want))
	}
}

func refuseTable(t *testing.T, l []api.Inode) {
	t.Helper()
	if got, err := vol.Table(l); len(got) != 0 || err != api.ErrVol {
		t.Errorf("Table of %d: %d contents, %d; want none, 154", len(l), len(got), err)
	}
}

func wantInodes(t *testing.T, contents []string, want []api.Inode) {
	t.Helper()
	if got, err := vol.Inodes(contents); !slices.Equal(got, want) || err != api.OK {
		t.Errorf("Inodes of %d contents: %d, %d; want %d, 0", len(contents), len(got), err, len(want))
	}
}

func refuseInodes(t *testing.T, contents []string) {
	t.Helper()
	if got, err := vol.Inodes(contents); len(got) != 0 || err != api.ErrVol {
		t.Errorf("Inodes of %d contents: %d, %d; want none, 154", len(contents), len(got), err)
	}
}

func wantTrim(t *testing.T, l []api.Node, want int) {
	t.Helper()
	if got := vol.Trim(l); !slices.Equal(got, l[:want]) {
		t.Errorf("Trim of %d: %d, want %d", len(l), len(got), want)
	}
}

// The chapter's examples.
func TestExamples(t *testing.T) {
	s := text(600)
	wantCut(t, s, []string{s[:508], s[508:]})
	wantChanged(t, "ab", "ac", 0)
	wantChanged(t, "a", "a\x00")
}

// P17.1: contents of data of each size at the edges, also of sizes that no file has.
func TestCut(t *testing.T) {
	for _, size := range slices.Concat(edges, past) {
		s := text(size)
		wantCut(t, s, cut(s))
		wantCut(t, zeros(size), cut(zeros(size)))
		l := vol.Cut(s)
		if len(l) != blocksOf(uint32(size)) || strings.Join(l, "") != s {
			t.Errorf("Cut of %d bytes: %d contents", size, len(l))
		}
		for i, content := range l {
			if len(content) != 508 && i != len(l)-1 || len(content) == 0 {
				t.Errorf("Cut of %d bytes: %d bytes at %d", size, len(content), i)
			}
		}
	}
	for size := range 1100 {
		wantCut(t, text(size), cut(text(size)))
	}
}

// P17.1: contents of each size at the edges, the last one as short as it may be, with bytes 0 behind, and as a block has it.
func TestPaste(t *testing.T) {
	for _, size := range edges {
		s := text(size)
		l := cut(s)
		wantPaste(t, l, uint32(size), s)
		wantPaste(t, blocked(l), uint32(size), s)
		wantPaste(t, cut(zeros(size)), uint32(size), zeros(size))
		if size > 0 {
			last := l[len(l)-1]
			for _, more := range []int{0, 1, 2, (508 - len(last)) / 2, 507 - len(last), 508 - len(last)} {
				if more >= 0 && len(last)+more <= 508 {
					wantPaste(t, with(l, len(l)-1, last+zeros(more)), uint32(size), s)
				}
			}
		}
	}
	for left := 1; left <= 508; left++ {
		s := text(508 + left)
		for length := left; length <= 508; length++ {
			wantPaste(t, []string{s[:508], s[508:] + zeros(length-left)}, uint32(len(s)), s)
		}
	}
}

// P17.1: contents that are too many, too few, too short, too long, or that have other bytes behind.
func TestPasteRefuses(t *testing.T) {
	for _, size := range edges {
		l := cut(text(size))
		refusePaste(t, append(slices.Clone(l), ""), uint32(size))
		refusePaste(t, append(slices.Clone(l), zeros(508)), uint32(size))
		refusePaste(t, append(slices.Clone(l), "a"), uint32(size))
		if size == 0 {
			continue
		}
		refusePaste(t, l[1:], uint32(size))
		refusePaste(t, l[:len(l)-1], uint32(size))
		refusePaste(t, nil, uint32(size))
		refusePaste(t, make([]string, len(l)), uint32(size))
		last := len(l) - 1
		refusePaste(t, with(l, last, l[last][1:]), uint32(size))
		refusePaste(t, with(l, last, ""), uint32(size))
		refusePaste(t, with(l, last, l[last]+zeros(509-len(l[last]))), uint32(size))
		refusePaste(t, with(l, last, l[last]+zeros(1016-len(l[last]))), uint32(size))
		for i := range last {
			if i > 3 && i < last-3 {
				continue
			}
			refusePaste(t, with(l, i, l[i][1:]), uint32(size))
			refusePaste(t, with(l, i, l[i]+zeros(1)), uint32(size))
			refusePaste(t, with(l, i, ""), uint32(size))
		}
		for at := len(l[last]); at < 508; at++ {
			refusePaste(t, with(l, last, changed(blocked(l)[last], at, 1)), uint32(size))
		}
	}
	l := cut(text(600))
	refusePaste(t, l, 601) // too short by a byte
	refusePaste(t, l, 599) // its last byte is not 0
	wantPaste(t, cut(text(599)+"\x00"), 599, text(599))
	refusePaste(t, l, 508)
	refusePaste(t, l, 1016)
	refusePaste(t, l, 1017)
	refusePaste(t, []string{l[1], l[0]}, 600)
}

// P17.1: the first one that is wrong decides, wherever it stands.
func TestPasteRefusesAtEachPlace(t *testing.T) {
	s := text(200000)
	l := cut(s)
	wantPaste(t, l, 200000, s)
	for i := range l {
		refusePaste(t, with(l, i, l[i][1:]), 200000)
		refusePaste(t, with(l, i, l[i]+zeros(509)), 200000)
	}
}

// P17.1: sizes above those that a file may have, with as many contents as they have.
func TestPasteOfTooMuch(t *testing.T) {
	for _, size := range past {
		s := text(size)
		refusePaste(t, cut(s), uint32(size))
		refusePaste(t, blocked(cut(s)), uint32(size))
		refusePaste(t, nil, uint32(size))
	}
	for _, size := range []uint32{biggest + 1, 1 << 24, 1 << 31, math.MaxUint32 - 507, math.MaxUint32 - 506, math.MaxUint32 - 1, math.MaxUint32} {
		refusePaste(t, nil, size)
		refusePaste(t, []string{zeros(508)}, size)
		refusePaste(t, []string{"a"}, size)
	}
}

// P17.1: what changed is told by number, rising; contents that were none are others.
func TestChanged(t *testing.T) {
	a := text(600)
	wantChanged(t, "", "")
	wantChanged(t, "a", "")
	wantChanged(t, a, "")
	wantChanged(t, "", "a", 0)
	wantChanged(t, "", a, 0, 1)
	wantChanged(t, a, a)
	wantChanged(t, a, a[:599]+"\xff", 1)
	wantChanged(t, a, "\xff"+a[1:], 0)
	wantChanged(t, a, "\xff"+a[1:599]+"\xff", 0, 1)
	wantChanged(t, a, a[:100], 0)
	wantChanged(t, a, a[:507], 0)
	wantChanged(t, a, a[:508])
	wantChanged(t, a, a[:509], 1)
	wantChanged(t, a[:508], a, 1)
	wantChanged(t, a[:507], a, 0, 1)
	wantChanged(t, text(2000), "\xff"+text(2000)[1:1100]+"\xff"+text(2000)[1101:], 0, 2)
	wantChanged(t, text(200000), text(200000))
	wantChanged(t, text(199999), text(200000), 393)
}

// P17.1: bytes 0 behind a shorter content do not count, whichever is the shorter one; other bytes do, and so does a content that was none.
func TestChangedByNoughts(t *testing.T) {
	for _, count := range []int{1, 2, 100, 507} {
		s := text(count)
		wantChanged(t, s, s+zeros(1))
		wantChanged(t, s+zeros(1), s)
		wantChanged(t, s, s+zeros(508-count))
		wantChanged(t, s+zeros(508-count), s)
		wantChanged(t, s, s+zeros(509-count), 1) // no content of the number 1 was there
		wantChanged(t, s+zeros(509-count), s)
		wantChanged(t, s, s+zeros(1016-count), 1)
		wantChanged(t, s, s+zeros(1524-count), 1, 2)
		wantChanged(t, s+zeros(1524-count), s+zeros(509-count))
		wantChanged(t, s, s[:count-1]+"\x00", 0)
		wantChanged(t, s+"a", s, 0)
		wantChanged(t, zeros(count), zeros(count)+"a", 0)
		wantChanged(t, zeros(count), "\x00")
		wantChanged(t, "\x00", zeros(count))
	}
	wantChanged(t, "", "\x00", 0)
	wantChanged(t, "\x00", "")
	wantChanged(t, text(508), text(508)+"\x00", 1)
	wantChanged(t, text(508)+"a", text(508)+"a\x00\x00")
	wantChanged(t, text(508)+"a\x00\x00", text(508)+"a\x00")
	wantChanged(t, text(508)+"a\x00\x00", text(508)+"a\x00b", 1)
	wantChanged(t, text(508)+"a\x00b", text(508)+"a\x00", 1)
	for length := 1; length <= 508; length++ {
		for at := length; at < 508; at += 17 {
			s := text(length)
			wantChanged(t, s, changed(s+zeros(508-length), at, 1), 0)
			wantChanged(t, changed(s+zeros(508-length), at, 1), s, 0)
		}
	}
}

// P17.1: each single byte counts.
func TestChangedAtEachByte(t *testing.T) {
	s := text(1100)
	for at := range len(s) {
		wantChanged(t, s, changed(s, at, 0xff), at/508)
		wantChanged(t, changed(s, at, 0xff), s, at/508)
		wantChanged(t, s, changed(s, at, 0), at/508)
		wantChanged(t, s[:at], s, []int{0, 1, 2}[at/508:]...) // its end is another one, and what stands behind it
	}
}

// P17.1: contents that are far apart, and that stand at other numbers, are each told alone.
func TestChangedIsByNumber(t *testing.T) {
	a, b := strings.Repeat("a", 508), strings.Repeat("b", 508)
	wantChanged(t, a+b, b+a, 0, 1)
	wantChanged(t, a+b+a, b+b+b, 0, 2)
	wantChanged(t, a+b+a+b, a+a+a+b, 1)
	wantChanged(t, a+b, b, 0)
	wantChanged(t, b, a+b, 0, 1)
	wantChanged(t, a+a, a)
	wantChanged(t, a, a+a, 1)
}

// rightNodes are of each kind, and of each size at the edges.
func rightNodes() []api.Node {
	var out []api.Node
	for _, size := range slices.Concat(edges, past) {
		out = append(out, api.Node{Kind: api.File, Mode: 420, Links: 1, Time: 5, Data: text(size)})
	}
	for _, kind := range []int{api.File, api.Dir, api.Link} {
		out = append(out,
			api.Node{Kind: kind},
			api.Node{Kind: kind, Mode: 4095, Links: math.MaxUint16, Time: greatest, Data: "a\x00b"},
			api.Node{Kind: kind, Mode: 1, Links: 2, Time: 3, Data: text(600)},
			api.Node{Kind: kind, Mode: 0x0102, Links: 0x0304, Time: 0x0a0908070605, Data: zeros(600)})
	}
	return out
}

// P17.2: the inode of a node has its Kind, Mode, Links, Time, of its Data's length as Size, the depth that has, and the map.
func TestInode(t *testing.T) {
	for _, n := range rightNodes() {
		size := uint32(len(n.Data))
		for _, first := range []uint32{1, 77, math.MaxUint32 - 0x06060606} {
			m := mapOf(size, first)
			wantInode(t, n, m, made(n, m))
		}
	}
	n := api.Node{Kind: api.File, Mode: 420, Links: 1, Time: 5, Data: text(600)}
	wantInode(t, n, [6]uint32{3, 4}, api.Inode{Kind: 1, Mode: 420, Links: 1, Size: 600, Time: 5, Depth: 0, Map: [6]uint32{3, 4}})
	wantInode(t, n, [6]uint32{}, api.Inode{Kind: 1, Mode: 420, Links: 1, Size: 600, Time: 5}) // of holes alone
	n.Data = text(3049)
	wantInode(t, n, [6]uint32{9}, api.Inode{Kind: 1, Mode: 420, Links: 1, Size: 3049, Time: 5, Depth: 1, Map: [6]uint32{9}})
	n.Data = text(64517)
	wantInode(t, n, [6]uint32{9}, api.Inode{Kind: 1, Mode: 420, Links: 1, Size: 64517, Time: 5, Depth: 2, Map: [6]uint32{9}})
}

// P17.2: of none the inode is the free one, and it has no map.
func TestInodeOfNone(t *testing.T) {
	wantInode(t, api.Node{}, [6]uint32{}, api.Inode{})
	for place := range 6 {
		var m [6]uint32
		m[place] = 1
		refuseInode(t, api.Node{}, m)
		m[place] = math.MaxUint32
		refuseInode(t, api.Node{}, m)
	}
	for _, n := range []api.Node{{Mode: 1}, {Links: 1}, {Time: 1}, {Data: "a"}, {Data: "\x00"}, {Mode: 420, Links: 1, Time: 5, Data: text(600)}} {
		refuseInode(t, n, [6]uint32{})
		refuseInode(t, n, mapOf(uint32(len(n.Data)), 3))
	}
}

// P17.2: nodes and maps of which there is no right inode.
func TestInodeRefuses(t *testing.T) {
	for _, kind := range []int{-1, 4, 5, 255, 256, 257, 258, 1 << 32, 1<<32 + 1, math.MaxInt, math.MinInt, math.MinInt + 1} {
		refuseInode(t, api.Node{Kind: kind, Mode: 420, Links: 1}, [6]uint32{})
		refuseInode(t, api.Node{Kind: kind}, [6]uint32{})
	}
	for _, mode := range []uint16{4096, 4097, 8191, 1 << 15, math.MaxUint16} {
		refuseInode(t, api.Node{Kind: api.File, Mode: mode}, [6]uint32{})
	}
	for _, time := range []uint64{greatest + 1, greatest + 2, 1 << 49, 1 << 63, math.MaxUint64} {
		refuseInode(t, api.Node{Kind: api.File, Time: time}, [6]uint32{})
	}
	for _, n := range rightNodes() {
		size := uint32(len(n.Data))
		m := mapOf(size, 3)
		from := blocksOf(size)
		if depthOf(size) > 0 {
			from = 1
			refuseInode(t, n, [6]uint32{})
			refuseInode(t, n, [6]uint32{0, 3})
		}
		for place := from; place < 6; place++ {
			wrong := m
			wrong[place] = 5
			refuseInode(t, n, wrong)
		}
	}
	for _, size := range []int{biggest + 1, biggest + 2, 1 << 23, 1 << 24} {
		n := api.Node{Kind: api.File, Mode: 420, Links: 1, Data: zeros(size)}
		refuseInode(t, n, [6]uint32{3})
		refuseInode(t, n, [6]uint32{})
	}
}

// P17.2: the node of an inode and its data; of a free one, and of no data, none.
func TestNode(t *testing.T) {
	wantNode(t, api.Inode{}, "", api.Node{})
	for _, n := range rightNodes() {
		x := made(n, mapOf(uint32(len(n.Data)), 7))
		wantNode(t, x, n.Data, n)
		n.Data = zeros(len(n.Data))
		wantNode(t, x, n.Data, n)
	}
}

// P17.2: data of another length than Size, and inodes that are not right.
func TestNodeRefuses(t *testing.T) {
	refuseNode(t, api.Inode{}, "a")
	refuseNode(t, api.Inode{}, "\x00")
	refuseNode(t, api.Inode{}, zeros(508))
	for _, n := range rightNodes() {
		size := uint32(len(n.Data))
		x := made(n, mapOf(size, 7))
		refuseNode(t, x, n.Data+"a")
		refuseNode(t, x, n.Data+"\x00")
		refuseNode(t, x, n.Data+zeros(508))
		if size > 0 {
			refuseNode(t, x, n.Data[1:])
			refuseNode(t, x, "")
		}
		for _, wrong := range wrongOf(x) {
			refuseNode(t, wrong, n.Data)
		}
	}
	refuseNode(t, api.Inode{Kind: api.File, Size: biggest + 1, Depth: 2, Map: [6]uint32{1}}, zeros(biggest+1))
	refuseNode(t, api.Inode{Kind: api.File, Size: math.MaxUint32, Depth: 2, Map: [6]uint32{1}}, "")
	for _, n := range []api.Inode{{Mode: 1}, {Links: 1}, {Time: 1}, {Depth: 1}, {Map: [6]uint32{1}}, {Map: [6]uint32{5: 1}}, {Depth: -1}} {
		refuseNode(t, n, "")
	}
}

// wrongOf are inodes that are not right, each by one thing.
func wrongOf(n api.Inode) []api.Inode {
	var out []api.Inode
	for _, kind := range []int{0, -1, 4, 255, 257, math.MaxInt} {
		wrong := n
		wrong.Kind = kind
		if wrong != (api.Inode{}) {
			out = append(out, wrong)
		}
	}
	mode, time, more, less, full := n, n, n, n, n
	mode.Mode = 4096
	time.Time = greatest + 1
	more.Depth++
	less.Depth--
	full.Map[5] = 1
	out = append(out, mode, time, more, less)
	if blocksOf(n.Size) != 6 {
		out = append(out, full)
	}
	if n.Depth > 0 {
		bare := n
		bare.Map = [6]uint32{}
		out = append(out, bare)
	}
	return out
}

// inodeAt is a right inode, another one at each number; some are free.
func inodeAt(i int) api.Inode {
	if i%5 == 3 {
		return api.Inode{}
	}
	size := uint32(i) * 900
	return api.Inode{Kind: 1 + i%3, Mode: uint16(i * 17), Links: uint16(i*257 + 1), Size: size, Time: uint64(i) * 0x010203040506 % greatest, Depth: depthOf(size), Map: mapOf(size, uint32(i+1))}
}

func inodesOf(count int) []api.Inode {
	out := make([]api.Inode, count)
	for i := range out {
		out[i] = inodeAt(i)
	}
	return out
}

// P17.2: a table of each count, up to some above the limit: as many contents as are begun.
func TestTable(t *testing.T) {
	for count := range 260 {
		l := inodesOf(count)
		if count > 240 {
			refuseTable(t, l)
			refuseTable(t, make([]api.Inode, count))
			continue
		}
		wantTable(t, l, tableOf(l))
		free := make([]string, (count+11)/12)
		for i := range free {
			free[i] = zeros(508)
		}
		wantTable(t, make([]api.Inode, count), free)
	}
	refuseTable(t, make([]api.Inode, 5000))
}

// P17.2: the inode i stands in the content i / 12 at i modulo 12, 42 bytes each; free ones are bytes 0.
func TestTableByPlace(t *testing.T) {
	n := inodeAt(7)
	for i := range 240 {
		l := make([]api.Inode, i+1)
		l[i] = n
		got, err := vol.Table(l)
		if len(got) != i/12+1 || err != api.OK {
			t.Fatalf("Table of %d: %d contents, %d", i+1, len(got), err)
		}
		for k, content := range got {
			want := zeros(508)
			if k == i/12 {
				want = zeros(i%12*42) + bytesOf(n) + zeros(508-i%12*42-42)
			}
			if content != want {
				t.Errorf("the content %d with the inode %d: %q", k, i, content)
			}
		}
		wantInodes(t, got, append(l, make([]api.Inode, 12*len(got)-len(l))...))
	}
}

// P17.2: one inode that is not right, at each place.
func TestTableRefuses(t *testing.T) {
	for _, count := range []int{1, 2, 11, 12, 13, 24, 25, 240} {
		l := inodesOf(count)
		for i := range l {
			for _, wrong := range wrongOf(inodeAt(1)) {
				refuseTable(t, with(l, i, wrong))
			}
			refuseTable(t, with(l, i, api.Inode{Mode: 1}))
			refuseTable(t, with(l, i, api.Inode{Map: [6]uint32{5: 1}}))
		}
	}
}

// P17.2: tables of each count of contents, up to some above the limit.
func TestInodes(t *testing.T) {
	wantInodes(t, nil, nil)
	for count := range 25 {
		l := inodesOf(12 * count)
		contents := tableOf(l)
		free := slices.Repeat([]string{zeros(508)}, count)
		if count > 20 {
			refuseInodes(t, contents)
			refuseInodes(t, free)
			continue
		}
		wantInodes(t, contents, l)
		wantInodes(t, free, make([]api.Inode, 12*count))
	}
	refuseInodes(t, make([]string, 21))
	refuseInodes(t, make([]string, 500))
}

// P17.2: contents of other lengths, with others behind the inodes, or with one that is not right, at each place.
func TestInodesRefuses(t *testing.T) {
	for _, count := range []int{1, 2, 3, 20} {
		l := inodesOf(12 * count)
		contents := tableOf(l)
		for i, content := range contents {
			for _, wrong := range []string{"", "a", content[:42], content[:504], content[:507], content[1:], content + "\x00", content + zeros(4), content + content, content[:503] + content[504:]} {
				refuseInodes(t, with(contents, i, wrong))
			}
			for at := 504; at < 508; at++ {
				refuseInodes(t, with(contents, i, changed(content, at, 1)))
				refuseInodes(t, with(contents, i, changed(content, at, 0xff)))
			}
			for k := range 12 {
				for _, wrong := range wrongOf(inodeAt(1)) {
					if wrong.Kind >= 0 && wrong.Kind < 256 && wrong.Depth >= 0 && wrong.Time <= greatest { // there are bytes of it
						refuseInodes(t, with(contents, i, content[:42*k]+bytesOf(wrong)+content[42*k+42:]))
					}
				}
				refuseInodes(t, with(contents, i, changed(content, 42*k+40, 1)))
				refuseInodes(t, with(contents, i, changed(content, 42*k+41, 1)))
			}
		}
	}
}

// T6, P17.2: what is read from contents has these contents as its table; each single byte changed is another table's, or none's.
func TestInodesAtEachByte(t *testing.T) {
	contents := tableOf(inodesOf(12))
	for at := range 508 {
		for _, c := range []byte{0, 1, 2, 4, 5, 0x10, 0xff} {
			s := changed(contents[0], at, c)
			l, err := vol.Inodes([]string{s})
			if err != api.OK {
				continue
			}
			wantTable(t, l, []string{s})
		}
	}
}

// P17.2: none at the end are left out, but the first three are kept, whatever they are.
func TestTrim(t *testing.T) {
	n, other := api.Node{Kind: api.File, Links: 1, Data: "a"}, api.Node{Kind: api.Dir, Time: 5}
	for count := range 10 {
		wantTrim(t, make([]api.Node, count), min(count, 3))
		for last := range count {
			l := make([]api.Node, count)
			l[last] = n
			wantTrim(t, l, max(min(count, 3), last+1))
			l[0] = other
			l[last/2] = other
			l[last] = n
			wantTrim(t, l, max(min(count, 3), last+1))
		}
	}
	wantTrim(t, []api.Node{{}, {}, n, {}, n, {}, {}}, 5)
	l := make([]api.Node, 300)
	l[250] = n
	wantTrim(t, l, 251)
	wantTrim(t, l[:250], 3)
	for _, x := range []api.Node{{Kind: 1}, {Kind: 9}, {Kind: -1}, {Mode: 1}, {Links: 1}, {Time: 1}, {Data: "\x00"}} { // of these none is all 0
		wantTrim(t, []api.Node{{}, {}, {}, {}, x, {}}, 5)
		wantTrim(t, []api.Node{{}, {}, {}, x}, 4)
	}
}

// random is data of chance, of which much is 0 or the same.
func random(r *rand.Rand, most int) string {
	b := make([]byte, r.IntN(most+1))
	for i := range b {
		if r.IntN(60) == 0 {
			b[i] = byte(r.IntN(3))
		}
	}
	return string(b)
}

// turned is data of which some was changed, cut off, or put behind.
func turned(r *rand.Rand, data string) string {
	b := []byte(data)
	for range r.IntN(4) {
		if len(b) > 0 {
			b[r.IntN(len(b))] = byte(r.IntN(3))
		}
	}
	switch r.IntN(4) {
	case 0:
		b = b[:r.IntN(len(b)+1)]
	case 1:
		b = append(b, zeros(r.IntN(1200))...)
	case 2:
		b = append(b, random(r, 1200)...)
	}
	return string(b)
}

// P17.1, P17.3: calls by chance, against contents that were cut byte by byte; what changed, laid over what was, is what is.
func TestContentsByChance(t *testing.T) {
	r := rand.New(rand.NewPCG(17, 1))
	for range 6000 {
		was := random(r, 4000)
		is := turned(r, was)
		wantCut(t, is, cut(is))
		wantChanged(t, was, is, others(was, is)...)
		wantChanged(t, is, is)
		l := vol.Cut(is)
		wantPaste(t, l, uint32(len(is)), is)
		wantPaste(t, blocked(l), uint32(len(is)), is)
		held := blocked(vol.Cut(was))
		for len(held) < len(l) {
			held = append(held, "")
		}
		for _, i := range vol.Changed(was, is) {
			held[i] = l[i] + zeros(508-len(l[i]))
		}
		held = held[:len(l)]
		if !slices.Equal(held, blocked(l)) {
			t.Fatalf("%d bytes, changed to %d, are not those that are", len(was), len(is))
		}
	}
}

// P17.1: contents by chance, of sizes that they may have, or not.
func TestPasteByChance(t *testing.T) {
	r := rand.New(rand.NewPCG(17, 2))
	right := 0
	for range 20000 {
		l := make([]string, r.IntN(4))
		for i := range l {
			l[i] = zeros([]int{0, 1, 5, 507, 508, 508, 508, 508, 509}[r.IntN(9)])
			if len(l[i]) > 0 && r.IntN(3) == 0 {
				l[i] = changed(l[i], r.IntN(len(l[i])), 1)
			}
		}
		size := []int{0, 1, 4, 5, 6, 507, 508, 509, 1015, 1016, 1017, 1524}[r.IntN(12)]
		if r.IntN(2) == 0 {
			size = len(strings.Join(l, ""))
		}
		data, ok := pasted(l, size)
		if ok {
			right++
			wantPaste(t, l, uint32(size), data)
		} else {
			refusePaste(t, l, uint32(size))
		}
	}
	if right < 2000 {
		t.Errorf("%d were right", right)
	}
}

// pasted are contents as data, by the chapter's words.
func pasted(l []string, size int) (string, bool) {
	if len(l) != (size+507)/508 {
		return "", false
	}
	all := ""
	for i, content := range l {
		if i < len(l)-1 && len(content) != 508 || len(content) > 508 {
			return "", false
		}
		all += content
	}
	if len(all) < size || strings.Trim(all[size:], "\x00") != "" {
		return "", false
	}
	return all[:size], true
}

// P17.3: nodes are read from their inodes, and inodes from their table, as they were, free ones behind.
func TestRoundTripsByChance(t *testing.T) {
	r := rand.New(rand.NewPCG(17, 3))
	for range 400 {
		nodes := make([]api.Node, r.IntN(241))
		inodes := make([]api.Inode, len(nodes))
		for i := range nodes {
			if r.IntN(4) == 0 {
				continue
			}
			nodes[i] = api.Node{Kind: 1 + r.IntN(3), Mode: uint16(r.IntN(4096)), Links: uint16(r.Uint32()), Time: r.Uint64N(greatest + 1), Data: random(r, []int{5, 600, 4000}[r.IntN(3)])}
			m := mapOf(uint32(len(nodes[i].Data)), r.Uint32N(1<<24)+1)
			x, err := vol.Inode(nodes[i], m)
			if x != made(nodes[i], m) || err != api.OK {
				t.Fatalf("Inode = %v, %d", x, err)
			}
			inodes[i] = x
		}
		contents, err := vol.Table(inodes)
		if err != api.OK || !slices.Equal(contents, tableOf(inodes)) {
			t.Fatalf("Table of %d: %d contents, %d", len(inodes), len(contents), err)
		}
		read, err := vol.Inodes(contents)
		if err != api.OK || len(read) != 12*len(contents) {
			t.Fatalf("Inodes of %d contents: %d, %d", len(contents), len(read), err)
		}
		for i, x := range read {
			if i >= len(inodes) {
				if x != (api.Inode{}) {
					t.Fatalf("behind the last one stands %v", x)
				}
				continue
			}
			if x != inodes[i] {
				t.Fatalf("the inode %d is read as %v, was %v", i, x, inodes[i])
			}
			wantNode(t, x, nodes[i].Data, nodes[i])
		}
		wantTable(t, read, contents)
	}
}

// R1: contents of no order end in an answer.
func TestInodesOfNoOrder(t *testing.T) {
	r := rand.New(rand.NewPCG(17, 4))
	for range 2000 {
		l := make([]string, r.IntN(4))
		for i := range l {
			b := make([]byte, []int{0, 1, 504, 507, 508, 508, 508, 509}[r.IntN(8)])
			for at := range b {
				if r.IntN(30) == 0 {
					b[at] = byte(r.IntN(256))
				}
			}
			l[i] = string(b)
		}
		if got, err := vol.Inodes(l); err == api.OK {
			wantTable(t, got, l)
		} else if len(got) != 0 || err != api.ErrVol {
			t.Errorf("Inodes: %d, %d", len(got), err)
		}
	}
}

// R3: nil and empty lists are one.
func TestNilAndEmpty(t *testing.T) {
	wantCut(t, "", nil)
	wantPaste(t, nil, 0, "")
	wantPaste(t, []string{}, 0, "")
	wantTable(t, nil, nil)
	wantTable(t, []api.Inode{}, nil)
	wantInodes(t, nil, nil)
	wantInodes(t, []string{}, nil)
	wantTrim(t, nil, 0)
	wantTrim(t, []api.Node{}, 0)
}

// within tells whether a text's memory is a piece of another one's.
func within(s string, whole string) bool {
	if len(s) == 0 || len(whole) == 0 {
		return false
	}
	at, from := uintptr(unsafe.Pointer(unsafe.StringData(s))), uintptr(unsafe.Pointer(unsafe.StringData(whole)))
	return at >= from && at < from+uintptr(len(whole))
}

// R3: what is answered is new memory, texts, too.
func TestTextsAreNewMemory(t *testing.T) {
	for _, size := range []int{1, 508, 600, 1016} {
		s := strings.Clone(text(size))
		l := vol.Cut(s)
		again := vol.Cut(s)
		for i, content := range l {
			if within(content, s) || within(content, again[i]) {
				t.Errorf("Cut of %d bytes answers a piece of them", size)
			}
		}
		data, _ := vol.Paste(l, uint32(size))
		for _, content := range l {
			if within(content, data) || within(data, content) {
				t.Errorf("Paste to %d bytes answers a content", size)
			}
		}
		n := api.Node{Kind: api.File, Data: s}
		x, _ := vol.Inode(n, mapOf(uint32(size), 1))
		if made, _ := vol.Node(x, s); within(made.Data, s) {
			t.Errorf("Node answers the %d bytes that it was handed", size)
		}
		if l := vol.Trim([]api.Node{{}, {}, {}, n}); within(l[3].Data, s) {
			t.Errorf("Trim answers the %d bytes that it was handed", size)
		}
	}
	one, _ := vol.Table(make([]api.Inode, 24))
	two, _ := vol.Table(make([]api.Inode, 24))
	starts := map[*byte]int{}
	for _, content := range slices.Concat(one, two) {
		starts[unsafe.StringData(content)]++
	}
	if len(starts) != 4 {
		t.Errorf("four contents lie at %d places", len(starts))
	}
}

// R3: what is handed in is not written into, nor its spare room, nor kept; what is answered shares none with it, spare room too.
func TestMemory(t *testing.T) {
	l := cut(text(1100))
	room := append(slices.Clone(l), "spare", "room")
	wantPaste(t, room[:3], 1100, text(1100))
	if !slices.Equal(room, append(slices.Clone(l), "spare", "room")) {
		t.Error("Paste wrote into what it was handed")
	}

	inodes := inodesOf(30)
	wantTable(t, inodes[:20], tableOf(inodesOf(20)))
	if !slices.Equal(inodes, inodesOf(30)) {
		t.Error("Table wrote into what it was handed")
	}

	contents := tableOf(inodesOf(36))
	one, _ := vol.Inodes(contents[:2])
	two, _ := vol.Inodes(contents[:2])
	all := one[:cap(one)]
	for i := range all {
		all[i] = api.Inode{Kind: 9}
	}
	if !slices.Equal(two, inodesOf(24)) || !slices.Equal(contents, tableOf(inodesOf(36))) {
		t.Error("answers of Inodes share memory")
	}

	n := api.Node{Kind: api.File, Data: "a"}
	nodes := []api.Node{{}, {}, n, n, {}, {}}
	kept := slices.Clone(nodes)
	for _, l := range [][]api.Node{nodes, nodes[:3], nodes[:4], nodes[:2]} {
		got := vol.Trim(l)
		got = got[:cap(got)]
		for i := range got {
			got[i] = api.Node{Kind: 9}
		}
		if !slices.Equal(nodes, kept) {
			t.Fatal("Trim answers what it was handed")
		}
	}

	told := vol.Changed("", text(1100))
	told = told[:cap(told)]
	for i := range told {
		told[i] = 9
	}
	wantChanged(t, "", text(1100), 0, 1, 2)
	pieces := vol.Cut(text(1100))
	pieces = pieces[:cap(pieces)]
	for i := range pieces {
		pieces[i] = "x"
	}
	wantCut(t, text(1100), l)
}

// R4: what a call answers hangs on its arguments alone.
func TestTwice(t *testing.T) {
	l := inodesOf(30)
	for range 3 {
		wantTable(t, l, tableOf(l))
		refuseTable(t, []api.Inode{{Mode: 1}})
		wantInodes(t, tableOf(l), append(inodesOf(30), make([]api.Inode, 6)...))
		refuseInodes(t, []string{"x"})
		wantPaste(t, cut(text(600)), 600, text(600))
		refusePaste(t, cut(text(600)), 601)
		wantChanged(t, text(600), text(601), 1)
		refuseInode(t, api.Node{Kind: 4}, [6]uint32{})
		wantInode(t, api.Node{Kind: 3}, [6]uint32{}, api.Inode{Kind: 3})
		wantTrim(t, make([]api.Node, 9), 3)
	}
}
