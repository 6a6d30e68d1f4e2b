package log_test

import (
	"encoding/binary"
	"math"
	"math/rand/v2"
	"slices"
	"strings"
	"testing"
	"unsafe"

	"nautilus/api"
	"nautilus/disk"
	"nautilus/log"
)

const (
	none     = -1        // the Torn of a crash that tears nothing, and the CutAt of a power that stays
	greatest = 1<<48 - 1 // the greatest number of a record, and of a checkpoint
)

func newDisk(t *testing.T, blocks int) *disk.Disk {
	t.Helper()
	d, err := disk.New(blocks)
	if err != api.OK {
		t.Fatalf("disk.New(%d): %d", blocks, err)
	}
	return d
}

func diskOf(t *testing.T, image []string) *disk.Disk {
	t.Helper()
	d, err := disk.Of(image)
	if err != api.OK {
		t.Fatalf("disk.Of %d texts: %d", len(image), err)
	}
	return d
}

func begin(t *testing.T, d *disk.Disk, at int, seq uint64, next int) *log.Log {
	t.Helper()
	l, err := log.Begin(d, at, seq, next)
	if l == nil || err != api.OK {
		t.Fatalf("Begin at %d, of %d, next %d: %d", at, seq, next, err)
	}
	return l
}

func setNext(t *testing.T, l *log.Log, segment int) {
	t.Helper()
	if err := l.SetNext(segment); err != api.OK {
		t.Fatalf("SetNext(%d): %d", segment, err)
	}
}

// wantLog holds all that a log tells against numbers; Room is worked out from At.
func wantLog(t *testing.T, l *log.Log, at int, seq uint64, next int) {
	t.Helper()
	room := (at/16+1)*16 - 1 - at
	if l.At() != at || l.Seq() != seq || l.Next() != next || l.Room() != room {
		t.Fatalf("At %d, Seq %d, Next %d, Room %d; want %d, %d, %d, %d", l.At(), l.Seq(), l.Next(), l.Room(), at, seq, next, room)
	}
}

func data(file uint32, index uint32, vbn uint32) api.Entry {
	return api.Entry{Kind: api.KData, File: file, Index: index, Vbn: vbn}
}

// someItems are items of a record that doesn't end, with contents of many lengths; no two of the same mark and place are the same.
func someItems(count int, mark int) []api.Item {
	l := make([]api.Item, count)
	for i := range l {
		e := data(uint32(3+i), uint32(mark), uint32(5+i))
		if i%3 == 1 {
			e = api.Entry{Kind: api.KDat, Index: uint32(mark)}
		}
		content := string([]byte{byte(mark), byte(mark >> 8), byte(i)}) + strings.Repeat(string(rune('a'+i)), (mark*37+i*101)%506)
		l[i] = api.Item{E: e, Content: content}
	}
	return l
}

// endingItems are such of a record that Ends.
func endingItems(count int, mark int) []api.Item {
	l := someItems(count, mark)
	l[count-1].E = api.Entry{Kind: api.KRoot, Index: uint32(mark)}
	return l
}

func entriesOf(items []api.Item) []api.Entry {
	var out []api.Entry
	for _, item := range items {
		out = append(out, item.E)
	}
	return out
}

func padded(s string, size int) string {
	return s + strings.Repeat("\x00", size-len(s))
}

// headOf is a record's block, worked out without package record, whether the record is right or not.
func headOf(r api.Record) string {
	var wide [8]byte
	out := []byte("R")
	binary.LittleEndian.PutUint64(wide[:], r.Seq)
	out = append(out, wide[:6]...)
	binary.LittleEndian.PutUint64(wide[:], r.Cp)
	out = append(out, wide[:6]...)
	flag := byte(0)
	if r.Ends {
		flag |= 1
	}
	if r.Sync {
		flag |= 2
	}
	out = append(out, flag)
	out = binary.LittleEndian.AppendUint16(out, uint16(r.Next))
	out = append(out, byte(len(r.L)))
	for _, e := range r.L {
		out = append(out, byte(e.Kind))
		out = binary.LittleEndian.AppendUint32(out, e.File)
		out = binary.LittleEndian.AppendUint32(out, e.Index)
		out = binary.LittleEndian.AppendUint32(out, e.Vbn)
	}
	return padded(string(out), 512)
}

func blockOf(content string) string {
	return padded("P\x00\x00\x00"+content, 512)
}

// writing is what a Write is asked for.
type writing struct {
	cp    uint64
	items []api.Item
	ends  bool
	syncs bool
}

// wrote is what should be found of it.
func (w writing) wrote(at int, seq uint64, next int) api.Found {
	f := api.Found{At: at, R: api.Record{Seq: seq, Cp: w.cp, Ends: w.ends, Sync: w.syncs, Next: next, L: entriesOf(w.items)}}
	for _, item := range w.items {
		f.Contents = append(f.Contents, padded(item.Content, 508))
	}
	return f
}

// blocks are those that it is on a disk, the record first.
func blocks(f api.Found) []string {
	out := []string{headOf(f.R)}
	for _, content := range f.Contents {
		out = append(out, blockOf(content))
	}
	return out
}

// lay puts what is found into an image.
func lay(image []string, f api.Found) {
	copy(image[f.At:], blocks(f))
}

func sameFound(a api.Found, b api.Found) bool {
	return a.At == b.At && a.R.Seq == b.R.Seq && a.R.Cp == b.R.Cp && a.R.Ends == b.R.Ends && a.R.Sync == b.R.Sync && a.R.Next == b.R.Next && slices.Equal(a.R.L, b.R.L) && slices.Equal(a.Contents, b.Contents)
}

func wantFound(t *testing.T, got []api.Found, want []api.Found) {
	t.Helper()
	for i := range min(len(got), len(want)) {
		if !sameFound(got[i], want[i]) {
			t.Fatalf("the record %d is at %d, %v, with %d contents; want at %d, %v, %d", i, got[i].At, got[i].R, len(got[i].Contents), want[i].At, want[i].R, len(want[i].Contents))
		}
	}
	if len(got) != len(want) {
		t.Fatalf("found %d records; want %d", len(got), len(want))
	}
}

// behind is where a log goes on behind a record of so many blocks, and what comes next then.
func behind(at int, count int, next int) (int, int) {
	if at%16+count+1 <= 14 {
		return at + count + 1, next
	}
	return next * 16, 0
}

// write is a Write that is answered; it holds places and the log behind it.
func write(t *testing.T, l *log.Log, w writing) api.Found {
	t.Helper()
	at, seq, next := l.At(), l.Seq(), l.Next()
	places, err := l.Write(w.cp, w.items, w.ends, w.syncs)
	if err != api.OK {
		t.Fatalf("Write of %d items at %d: %d", len(w.items), at, err)
	}
	var want []int
	for i := range w.items {
		want = append(want, at+1+i)
	}
	if !slices.Equal(places, want) {
		t.Fatalf("Write of %d items at %d: at %v; want %v", len(w.items), at, places, want)
	}
	on, then := behind(at, len(w.items), next)
	wantLog(t, l, on, seq+1, then)
	return w.wrote(at, seq, next)
}

func scan(t *testing.T, d *disk.Disk, at int, seq uint64, next int) ([]api.Found, *log.Log) {
	t.Helper()
	found, l, err := log.Scan(d, at, seq, next)
	if l == nil || err != api.OK {
		t.Fatalf("Scan at %d, of %d, next %d: %d", at, seq, next, err)
	}
	return found, l
}

// refuseBegin wants Begin and Scan to answer an error.
func refuseBegin(t *testing.T, d *disk.Disk, at int, seq uint64, next int, want api.Errno) {
	t.Helper()
	if l, err := log.Begin(d, at, seq, next); l != nil || err != want {
		t.Fatalf("Begin at %d, of %d, next %d: %v, %d; want %d", at, seq, next, l != nil, err, want)
	}
	if found, l, err := log.Scan(d, at, seq, next); len(found) > 0 || l != nil || err != want {
		t.Fatalf("Scan at %d, of %d, next %d: %d records, %v, %d; want %d", at, seq, next, len(found), l != nil, err, want)
	}
}

func rightSeqs() []uint64 {
	return []uint64{1, 2, 255, 256, 1 << 32, 1 << 47, greatest}
}

func wrongSeqs() []uint64 {
	return []uint64{0, greatest + 1, greatest + 2, 1 << 49, 1 << 63, math.MaxUint64}
}

func wrongSegments(blocks int) []int {
	return []int{-1, -2, -blocks / 16, blocks / 16, blocks/16 + 1, blocks, 256, 257, 1 << 32, 1<<32 + 1, math.MaxInt, math.MinInt, math.MinInt + 1}
}

func wrongPlaces(blocks int) []int {
	return []int{-1, -2, -16, -17, -blocks, 0, 1, 8, 14, 15, blocks, blocks + 1, blocks + 16, 4096, 1 << 32, 1<<32 + 16, math.MaxInt, math.MaxInt - 1, math.MinInt, math.MinInt + 16}
}

// P15.1, P15.3: a log begins at each block from 16 on that is not the last one of its segment, at no other.
func TestBeginAtEachBlock(t *testing.T) {
	for _, size := range []int{128, 144, 512, 4096} {
		d := newDisk(t, size)
		for at := -40; at < size+40; at++ {
			if at < 16 || at >= size || at%16 == 15 {
				refuseBegin(t, d, at, 1, 2, api.ErrLog)
				continue
			}
			wantLog(t, begin(t, d, at, 1, 2), at, 1, 2)
			found, l := scan(t, d, at, 1, 2)
			wantFound(t, found, nil)
			wantLog(t, l, at, 1, 2)
		}
		for _, at := range wrongPlaces(size) {
			refuseBegin(t, d, at, 1, 2, api.ErrLog)
		}
	}
}

// P15.1, P15.3: of each segment that may come next, 0 among them, and of no other.
func TestBeginWithNext(t *testing.T) {
	for _, size := range []int{128, 144, 4096} {
		d := newDisk(t, size)
		for next := -10; next < 300; next++ {
			if next < 0 || next >= size/16 {
				refuseBegin(t, d, 16, 1, next, api.ErrLog)
				continue
			}
			wantLog(t, begin(t, d, 16, 1, next), 16, 1, next)
			_, l := scan(t, d, 16, 1, next)
			wantLog(t, l, 16, 1, next)
		}
		for _, next := range wrongSegments(size) {
			refuseBegin(t, d, 16, 1, next, api.ErrLog)
		}
	}
}

// P15.1, P15.3: of numbers from 1 up to 2^48 - 1.
func TestBeginOfNumbers(t *testing.T) {
	d := newDisk(t, 128)
	for _, seq := range rightSeqs() {
		wantLog(t, begin(t, d, 30, seq, 0), 30, seq, 0)
		found, l := scan(t, d, 30, seq, 0)
		wantFound(t, found, nil)
		wantLog(t, l, 30, seq, 0)
	}
	for _, seq := range wrongSeqs() {
		refuseBegin(t, d, 16, seq, 2, api.ErrLog)
		refuseBegin(t, d, 16, seq, 0, api.ErrLog)
	}
}

// P15.1, P15.3, R4: of no disk ErrNil is the answer, whatever else is wrong.
func TestBeginOfNoDisk(t *testing.T) {
	wrong, _ := disk.New(100)
	for _, d := range []*disk.Disk{nil, wrong, {}} {
		refuseBegin(t, d, 16, 1, 2, api.ErrNil)
		refuseBegin(t, d, 16, 1, 0, api.ErrNil)
		refuseBegin(t, d, 0, 0, -1, api.ErrNil)
		refuseBegin(t, d, math.MinInt, math.MaxUint64, math.MaxInt, api.ErrNil)
	}
}

// P15.1: a log begins, and is asked, whether the power is there or not; nothing is written.
func TestBeginWritesNothing(t *testing.T) {
	d := newDisk(t, 128)
	d.CutAt(0)
	l := begin(t, d, 16, 1, 0)
	setNext(t, l, 3)
	wantLog(t, l, 16, 1, 3)
	if d.Ops() != 0 || d.Loose() != 0 {
		t.Error("something is written")
	}
}

// P15.1: each segment from 1 on may come next, whatever came next ahead, the log's own one too; none else, and then nothing changes.
func TestSetNext(t *testing.T) {
	for _, size := range []int{128, 144, 4096} {
		d := newDisk(t, size)
		for _, first := range []int{0, 1, size/16 - 1} {
			l := begin(t, d, 17, 9, first)
			now := first
			for _, segment := range append(wrongSegments(size), 0) {
				if err := l.SetNext(segment); err != api.ErrArg {
					t.Fatalf("SetNext(%d): %d", segment, err)
				}
				wantLog(t, l, 17, 9, now)
			}
			for now = 1; now < size/16; now++ {
				setNext(t, l, now)
				wantLog(t, l, 17, 9, now)
				if err := l.SetNext(0); err != api.ErrArg {
					t.Fatalf("SetNext(0): %d", err)
				}
				wantLog(t, l, 17, 9, now)
			}
		}
	}
}

// P15.1 and R4: a nil log is none; nor are those that calls refused, nor Go's empty value.
func TestNoLog(t *testing.T) {
	refused, _ := log.Begin(newDisk(t, 128), 31, 1, 2)
	_, unfound, _ := log.Scan(nil, 16, 1, 2)
	for _, l := range []*log.Log{nil, refused, unfound, {}} {
		for range 2 {
			if l.At() != 0 || l.Seq() != 0 || l.Next() != 0 || l.Room() != 0 {
				t.Errorf("At %d, Seq %d, Next %d, Room %d", l.At(), l.Seq(), l.Next(), l.Room())
			}
			for _, segment := range []int{0, 1, 2, -1, math.MaxInt} {
				if err := l.SetNext(segment); err != api.ErrNil {
					t.Errorf("SetNext(%d): %d", segment, err)
				}
			}
			for _, count := range []int{0, 1, 15, 16} {
				if places, err := l.Write(1, someItems(count, 1), false, false); len(places) > 0 || err != api.ErrNil {
					t.Errorf("Write: %v, %d", places, err)
				}
			}
		}
	}
}

// P15.1, P15.2: the chapter's examples.
func TestExamplesOfTheChapter(t *testing.T) {
	d := newDisk(t, 128)
	l := begin(t, d, 16, 1, 2)
	write(t, l, writing{cp: 1, items: someItems(13, 1)})
	wantLog(t, l, 30, 2, 2)
	if places, err := l.Write(1, someItems(2, 2), false, false); len(places) > 0 || err != api.ErrArg {
		t.Errorf("Write of two items: %v, %d", places, err)
	}
	write(t, l, writing{cp: 1, items: someItems(1, 3)})
	wantLog(t, l, 32, 3, 0)
	refuseBegin(t, d, 31, 1, 2, api.ErrLog)
}

// writings are of one count, with all that a record may say.
func writings(count int) []writing {
	return []writing{
		{cp: 1, items: someItems(count, 1)},
		{cp: greatest, items: someItems(count, 256), syncs: true},
		{cp: 0x060504030201, items: endingItems(count, 513), ends: true},
	}
}

// P15.2: at each place of a segment, of each count for which there is room: the bytes on the disk, the places, the log behind them; all is flushed.
func TestWrite(t *testing.T) {
	for place := range 15 {
		for count := 1; count <= 15-place; count++ {
			for _, w := range writings(count) {
				d := newDisk(t, 128)
				want := d.Image()
				l := begin(t, d, 32+place, 77, 5)
				lay(want, write(t, l, w))
				if !slices.Equal(d.Image(), want) {
					t.Fatalf("the bytes behind a Write of %d items at %d", count, 32+place)
				}
				if !slices.Equal(d.Crash(api.Fate{Torn: none}).Image(), want) {
					t.Fatalf("not all of a Write of %d items at %d is flushed", count, 32+place)
				}
				if d.Ops() != count+3 {
					t.Fatalf("%d operations of a Write of %d items", d.Ops(), count)
				}
			}
		}
	}
}

// P15.2: contents of each length up to 508 bytes.
func TestWriteContents(t *testing.T) {
	d := newDisk(t, 512)
	l := begin(t, d, 16, 1, 2)
	want := d.Image()
	for length := range 509 {
		item := api.Item{E: data(1, 0, 1), Content: strings.Repeat("\xff", length)}
		lay(want, write(t, l, writing{cp: 1, items: []api.Item{item}}))
		setNext(t, l, max(1, (l.At()/16+1)%32))
	}
	if !slices.Equal(d.Image(), want) {
		t.Error("the bytes are others")
	}
}

// P15.2: a record speaks of the segment that came next as it was written; of one segment that is not the one behind.
func TestWriteGoesToNext(t *testing.T) {
	d := newDisk(t, 256)
	l := begin(t, d, 16, 1, 9)
	one := write(t, l, writing{cp: 1, items: someItems(2, 1)})
	setNext(t, l, 15)
	two := write(t, l, writing{cp: 1, items: someItems(12, 2)})
	wantLog(t, l, 240, 3, 0)
	setNext(t, l, 2)
	three := write(t, l, writing{cp: 1, items: someItems(15, 3)})
	wantLog(t, l, 32, 4, 0)
	if one.R.Next != 9 || two.R.Next != 15 || three.R.Next != 2 {
		t.Error("the model is wrong")
	}
	found, m := scan(t, d, 16, 1, 7)
	wantFound(t, found, []api.Found{one, two, three})
	wantLog(t, m, 32, 4, 0)
}

// wrongWritings are such that no log with room for so many writes them.
func wrongWritings(room int) []writing {
	long := someItems(1, 1)
	long[0].Content = strings.Repeat("a", 509)
	longer := someItems(room, 1)
	longer[room-1].Content = strings.Repeat("a", 100000)
	bad := someItems(room, 1)
	bad[room/2].E = api.Entry{Kind: api.KRoot}
	out := []writing{
		{cp: 1}, {cp: 1, items: []api.Item{}}, {cp: 1, syncs: true}, {cp: 1, ends: true},
		{cp: 1, items: someItems(room+1, 1)}, {cp: 1, items: someItems(16, 1)}, {cp: 1, items: someItems(17, 1)}, {cp: 1, items: someItems(272, 1)},
		{cp: 1, items: endingItems(room+1, 1), ends: true},
		{cp: 1, items: long}, {cp: 1, items: longer}, {cp: 1, items: bad}, {cp: 1, items: bad, syncs: true},
		{cp: 0, items: someItems(1, 1)}, {cp: greatest + 1, items: someItems(1, 1)}, {cp: math.MaxUint64, items: someItems(1, 1)},
		{cp: 1, items: someItems(1, 1), ends: true}, {cp: 1, items: endingItems(1, 1)}, {cp: 1, items: endingItems(1, 1), syncs: true},
		{cp: 1, items: endingItems(1, 1), ends: true, syncs: true}, {cp: 1, items: someItems(1, 1), ends: true, syncs: true},
	}
	for _, e := range []api.Entry{{}, {Kind: 6}, {Kind: -1}, {Kind: 257, File: 1, Vbn: 1}, {Kind: api.KData, Vbn: 1}, {Kind: api.KData, File: 1}, {Kind: api.KMap, File: 1}, {Kind: api.KDat, File: 1}, {Kind: api.KCps, Vbn: 1}} {
		out = append(out, writing{cp: 1, items: []api.Item{{E: e, Content: "a"}}})
	}
	return out
}

// refuseWrite wants an error, and nothing changed.
func refuseWrite(t *testing.T, d *disk.Disk, l *log.Log, w writing, want api.Errno) {
	t.Helper()
	ops, image, at, seq, next := d.Ops(), d.Image(), l.At(), l.Seq(), l.Next()
	if places, err := l.Write(w.cp, w.items, w.ends, w.syncs); len(places) > 0 || err != want {
		t.Fatalf("Write of %d items at %d: %v, %d; want %d", len(w.items), at, places, err, want)
	}
	wantLog(t, l, at, seq, next)
	if d.Ops() != ops || !slices.Equal(d.Image(), image) {
		t.Fatal("something is written")
	}
}

// P15.2: what is refused, ahead of the disk's errors, at each place; a right Write behind it is done.
func TestWriteRefuses(t *testing.T) {
	for _, at := range []int{16, 17, 29, 30, 112, 126} {
		d := newDisk(t, 128)
		l := begin(t, d, at, 1, 3)
		for _, w := range wrongWritings(15 - at%16) {
			refuseWrite(t, d, l, w, api.ErrArg)
		}
		d.CutAt(0)
		for _, w := range wrongWritings(15 - at%16) {
			refuseWrite(t, d, l, w, api.ErrArg)
		}
		refuseWrite(t, d, l, writing{cp: 1, items: someItems(1, 1)}, api.ErrDiskOff)
		d.CutAt(none)
		write(t, l, writing{cp: 1, items: someItems(1, 1)})
	}
}

// P15.2: where none is known to come next, that is told ahead of all else.
func TestWriteWithoutNext(t *testing.T) {
	d := newDisk(t, 128)
	l := begin(t, d, 16, 1, 0)
	all := append(wrongWritings(15), writings(3)...)
	for _, w := range all {
		refuseWrite(t, d, l, w, api.ErrLogNext)
	}
	d.CutAt(0)
	for _, w := range all {
		refuseWrite(t, d, l, w, api.ErrLogNext)
	}
	d.CutAt(none)
	setNext(t, l, 1)
	write(t, l, writing{cp: 1, items: someItems(14, 1)})
	wantLog(t, l, 16, 2, 0)
	refuseWrite(t, d, l, writing{cp: 1, items: someItems(14, 1)}, api.ErrLogNext)
}

// P15.2: the last number of all is written; behind it no record is right.
func TestWriteOfTheLastNumber(t *testing.T) {
	d := newDisk(t, 128)
	l := begin(t, d, 16, greatest-1, 2)
	one := write(t, l, writing{cp: 1, items: someItems(1, 1)})
	two := write(t, l, writing{cp: 1, items: someItems(1, 2)})
	wantLog(t, l, 20, greatest+1, 2)
	refuseWrite(t, d, l, writing{cp: 1, items: someItems(1, 3)}, api.ErrArg)
	found, m := scan(t, d, 16, greatest-1, 2)
	wantFound(t, found, []api.Found{one, two})
	wantLog(t, m, 20, greatest+1, 2)
	refuseWrite(t, d, m, writing{cp: 1, items: someItems(1, 3)}, api.ErrArg)
}

// P15.2: the blocks in their order, a Flush, the record, a Flush: as the power that goes at each of these shows. The log is as it was, and goes on when there is power.
func TestWriteInOrder(t *testing.T) {
	for _, count := range []int{1, 2, 7, 13} {
		for cut := range count + 4 {
			d := newDisk(t, 128)
			l := begin(t, d, 16, 5, 3)
			write(t, l, writing{cp: 1, items: someItems(1, 9)})
			flushed, now := d.Image(), d.Image()
			w := writing{cp: 2, items: someItems(min(count, l.Room()), 1)}
			all := blocks(w.wrote(18, 6, 3))
			d.CutAt(d.Ops() + cut)
			loose := min(cut, count)
			copy(now[19:], all[1:1+loose])
			if cut > count {
				loose = 0
				copy(flushed, now)
			}
			if cut > count+1 {
				loose, now[18] = 1, all[0]
			}
			if cut == count+3 {
				loose = 0
				write(t, l, w)
				copy(flushed, now)
			} else if places, err := l.Write(w.cp, w.items, false, false); len(places) > 0 || err != api.ErrDiskOff {
				t.Fatalf("Write, the power gone at %d: %v, %d", cut, places, err)
			} else {
				wantLog(t, l, 18, 6, 3)
			}
			if !slices.Equal(d.Image(), now) || !slices.Equal(d.Crash(api.Fate{Torn: none}).Image(), flushed) || d.Loose() != loose {
				t.Fatalf("the power gone at %d of a Write of %d items: the disk is not as it should be", cut, count)
			}
			d.CutAt(none)
			setNext(t, l, 4)
			write(t, l, writing{cp: 3, items: someItems(1, 2)})
		}
	}
}

// P15.2: what others wrote loosely is flushed with it, and stands where the log does not write.
func TestWriteBesideOthers(t *testing.T) {
	d := newDisk(t, 128)
	if err := d.Write(100, strings.Repeat("x", 512)); err != api.OK {
		t.Fatal(err)
	}
	l := begin(t, d, 16, 1, 2)
	write(t, l, writing{cp: 1, items: someItems(3, 1)})
	if b, _ := d.Crash(api.Fate{Torn: none}).Read(100); b != strings.Repeat("x", 512) {
		t.Error("it is lost")
	}
	m := begin(t, d, 64, 1, 5)
	write(t, m, writing{cp: 1, items: someItems(3, 2)})
	write(t, l, writing{cp: 1, items: someItems(3, 3)})
	wantLog(t, m, 68, 2, 5)
	wantLog(t, l, 24, 3, 2)
}

// chain lays records of these counts into an image, from a block on, the segments behind each other; it answers where the log goes on.
func chain(image []string, at int, seq uint64, counts ...int) ([]api.Found, int, int) {
	var all []api.Found
	next := 0
	for i, count := range counts {
		f := writing{cp: uint64(7 + i), items: someItems(count, 40+i)}.wrote(at, seq+uint64(i), at/16+1)
		lay(image, f)
		all = append(all, f)
		at, next = behind(at, count, f.R.Next)
	}
	return all, at, next
}

func emptyImage(blocks int) []string {
	return slices.Repeat([]string{padded("", 512)}, blocks)
}

// P15.3: records one behind the other, up to the end of the chain, from each of them on; what is told to come next counts where there are none alone.
func TestScan(t *testing.T) {
	for _, counts := range [][]int{nil, {1}, {13}, {14}, {15}, {1, 1, 1, 1, 1, 1, 1, 1}, {13, 1, 15, 14, 2, 2}, {3, 4, 5, 6, 7, 8, 6}, {12, 1, 15}} {
		image := emptyImage(256)
		all, at, then := chain(image, 32, 100, counts...)
		d := diskOf(t, image)
		for _, next := range []int{0, 1, 15} {
			found, l := scan(t, d, 32, 100, next)
			wantFound(t, found, all)
			if len(counts) == 0 {
				wantLog(t, l, 32, 100, next)
			} else {
				wantLog(t, l, at, 100+uint64(len(counts)), then)
			}
			for i, f := range all {
				found, m := scan(t, d, f.At, f.R.Seq, next)
				wantFound(t, found, all[i:])
				wantLog(t, m, l.At(), l.Seq(), l.Next())
				found, m = scan(t, d, f.At, f.R.Seq+1, next)
				wantFound(t, found, nil)
				wantLog(t, m, f.At, f.R.Seq+1, next)
			}
			found, m := scan(t, d, at, 100+uint64(len(counts)), next)
			wantFound(t, found, nil)
			wantLog(t, m, at, 100+uint64(len(counts)), next)
		}
		if d.Ops() != 0 || !slices.Equal(d.Image(), image) {
			t.Error("something is written")
		}
	}
}

// P15.3: a Scan needs no power.
func TestScanWithoutPower(t *testing.T) {
	image := emptyImage(128)
	all, at, next := chain(image, 16, 1, 3, 4)
	d := diskOf(t, image)
	d.CutAt(0)
	found, l := scan(t, d, 16, 1, 0)
	wantFound(t, found, all)
	wantLog(t, l, at, 3, next)
	refuseWrite(t, d, l, writing{cp: 1, items: someItems(1, 1)}, api.ErrDiskOff)
}

// wantStop lays a block over a chain of three records, and wants one of them alone to be found.
func wantStop(t *testing.T, at int, b string) {
	t.Helper()
	image := emptyImage(128)
	all, _, _ := chain(image, 16, 1, 2, 4, 3)
	image[at] = b
	found, l := scan(t, diskOf(t, image), 16, 1, 0)
	wantFound(t, found, all[:1])
	wantLog(t, l, 19, 2, 2)
}

// P15.3: a record is not there, if it is none, has another number, or its Next is no segment of the disk.
func TestScanStopsAtRecords(t *testing.T) {
	image := emptyImage(128)
	all, _, _ := chain(image, 16, 1, 2, 4, 3)
	right := all[1].R
	change := func(to func(r *api.Record)) {
		t.Helper()
		r := right
		to(&r)
		wantStop(t, 19, headOf(r))
	}
	for _, next := range []int{0, 8, 9, 15, 16, 127, 255, 256, 257, 65535} {
		change(func(r *api.Record) { r.Next = next })
	}
	for _, seq := range []uint64{0, 1, 3, 4, 258, greatest, 1 << 40} {
		change(func(r *api.Record) { r.Seq = seq })
	}
	change(func(r *api.Record) { r.Cp = 0 })
	change(func(r *api.Record) { r.Ends = true })
	change(func(r *api.Record) { r.Ends, r.Sync = true, true })
	change(func(r *api.Record) { r.L = nil })
	wantStop(t, 19, padded("", 512))
	wantStop(t, 19, blockOf("a"))
	head := headOf(right)
	for _, at := range []int{0, 255} {
		wantStop(t, 19, head[:at]+"\x07"+head[at+1:])
	}
}

// P15.3: each segment from 1 on may be a record's Next, and the Next of the last one comes next.
func TestScanOfEachNext(t *testing.T) {
	for _, size := range []int{128, 144, 4096} {
		for next := range 256 {
			image := emptyImage(size)
			f := writing{cp: 1, items: someItems(2, 1)}.wrote(16, 1, next)
			far := writing{cp: 1, items: someItems(12, 1)}.wrote(48, 1, next)
			lay(image, f)
			lay(image, far)
			d := diskOf(t, image)
			found, l := scan(t, d, 16, 1, 5)
			gone, m := scan(t, d, 48, 1, 5)
			if next < 1 || next >= size/16 {
				wantFound(t, found, nil)
				wantLog(t, l, 16, 1, 5)
				wantFound(t, gone, nil)
				wantLog(t, m, 48, 1, 5)
				continue
			}
			wantFound(t, found, []api.Found{f})
			wantLog(t, l, 19, 2, next)
			if next != 1 && next != 3 {
				wantFound(t, gone, []api.Found{far})
				wantLog(t, m, 61, 2, next)
			}
		}
	}
}

// P15.3: a record has no more entries than there is room for, at each place, even where all blocks behind it are such.
func TestScanOfEachRoom(t *testing.T) {
	for place := range 15 {
		for count := 1; count <= 15; count++ {
			image := slices.Repeat([]string{blockOf("q")}, 128)
			f := writing{cp: 1, items: someItems(count, 1)}.wrote(32+place, 6, 5)
			lay(image, f)
			found, l := scan(t, diskOf(t, image), 32+place, 6, 1)
			if count > 15-place {
				wantFound(t, found, nil)
				wantLog(t, l, 32+place, 6, 1)
				continue
			}
			wantFound(t, found, []api.Found{f})
			at, next := behind(32+place, count, 5)
			wantLog(t, l, at, 7, next)
		}
	}
}

// P15.3: all blocks behind a record are such, each of them; what they hold does not count.
func TestScanStopsAtBlocks(t *testing.T) {
	for at := 20; at <= 23; at++ {
		wantStop(t, at, padded("", 512))
		wantStop(t, at, strings.Repeat("P", 512))
		wantStop(t, at, padded("P\x00\x00\x01", 512))
		wantStop(t, at, headOf(api.Record{Seq: 2, Cp: 1, Next: 2, L: []api.Entry{data(1, 0, 1)}}))
	}
	image := emptyImage(128)
	all, at, next := chain(image, 16, 1, 2, 4, 3)
	for i := range 4 {
		content := strings.Repeat(string(rune('A'+i)), 508)
		image[20+i], all[1].Contents[i] = blockOf(content), content
	}
	found, l := scan(t, diskOf(t, image), 16, 1, 0)
	wantFound(t, found, all)
	wantLog(t, l, at, 4, next)
}

// P15.3: the second sector of a record does not count, nor what stands behind its blocks.
func TestScanOfSecondSectors(t *testing.T) {
	image := emptyImage(128)
	all, at, next := chain(image, 16, 1, 2, 4, 3)
	for _, f := range all {
		image[f.At] = image[f.At][:256] + strings.Repeat("R", 256)
	}
	for _, b := range []string{strings.Repeat("x", 512), blockOf(""), padded("R", 512)} {
		image[at] = b
		found, l := scan(t, diskOf(t, image), 16, 1, 0)
		wantFound(t, found, all)
		wantLog(t, l, at, 4, next)
	}
}

// P15.3 and R1: records that lead round end at the block that has another number by then.
func TestScanOfARound(t *testing.T) {
	image := emptyImage(128)
	var all []api.Found
	for i, at := range []int{16, 48, 112, 32} {
		f := writing{cp: 1, items: someItems(15, i)}.wrote(at, uint64(1+i), []int{3, 7, 2, 1}[i])
		lay(image, f)
		all = append(all, f)
	}
	d := diskOf(t, image)
	for i := range all {
		found, l := scan(t, d, all[i].At, uint64(1+i), 0)
		wantFound(t, found, all[i:])
		wantLog(t, l, 16, 5, 0)
	}
	itself := emptyImage(128)
	f := writing{cp: 1, items: someItems(15, 1)}.wrote(16, 1, 1)
	lay(itself, f)
	found, l := scan(t, diskOf(t, itself), 16, 1, 5)
	wantFound(t, found, []api.Found{f})
	wantLog(t, l, 16, 2, 0)
}

// P15.3: so many records as a disk may have.
func TestScanOfAFullDisk(t *testing.T) {
	image := emptyImage(4096)
	counts := slices.Repeat([]int{1}, 255*8-8)
	all, at, next := chain(image, 16, 1, counts...)
	found, l := scan(t, diskOf(t, image), 16, 1, 0)
	wantFound(t, found, all)
	wantLog(t, l, at, uint64(len(counts))+1, next)
}

// modelScan is a Scan of an image, where records may be those of a list alone.
func modelScan(image []string, known []api.Found, at int, seq uint64, next int) ([]api.Found, int, uint64, int) {
	var found []api.Found
	for {
		i := slices.IndexFunc(known, func(f api.Found) bool {
			return f.R.Seq == seq && headOf(f.R)[:256] == image[at][:256]
		})
		if i < 0 || len(known[i].R.L) > 15-at%16 || known[i].R.Next < 1 || known[i].R.Next >= len(image)/16 {
			return found, at, seq, next
		}
		f := api.Found{At: at, R: known[i].R}
		for j := range f.R.L {
			if b := image[at+1+j]; b[:4] == "P\x00\x00\x00" {
				f.Contents = append(f.Contents, b[4:])
			}
		}
		if len(f.Contents) < len(f.R.L) {
			return found, at, seq, next
		}
		found = append(found, f)
		at, next = behind(at, len(f.R.L), f.R.Next)
		seq++
	}
}

// somePlace is a block at which a log may begin, most often the first one of its segment.
func somePlace(r *rand.Rand, size int) int {
	place := 0
	if r.IntN(2) == 0 {
		place = r.IntN(15)
	}
	return (1+r.IntN(size/16-1))*16 + place
}

// wildImage has runs of records of few numbers at many places, some of them over others, among blocks behind records, and a few blocks that are neither.
func wildImage(r *rand.Rand) ([]string, []api.Found) {
	image := emptyImage(128)
	for at := range image {
		if r.IntN(30) > 0 {
			image[at] = blockOf(string(rune('a' + r.IntN(26))))
		}
	}
	var known []api.Found
	at, seq, next := 16, uint64(1), 2
	for range 40 {
		if r.IntN(12) == 0 || at == 0 {
			at, seq, next = somePlace(r, 128), 1+r.Uint64N(20), 1+r.IntN(7)
		}
		count := 1 + r.IntN(min(6, 15-at%16))
		if r.IntN(20) == 0 {
			count = 1 + r.IntN(15)
		}
		if r.IntN(40) == 0 || next == 0 {
			next = r.IntN(10)
		}
		f := writing{cp: 1 + r.Uint64N(3), items: someItems(count, r.IntN(500)), syncs: r.IntN(2) == 0}.wrote(at, seq, next)
		known = append(known, f)
		image[at] = headOf(f.R)
		at, next = behind(at, count, next)
		seq++
		if at >= 128 {
			at = 0
		}
	}
	return image, known
}

// P15.3 and R1: of disks with all manner of things on them Scan ends, and finds what the plain way does.
func TestScanOfWildDisks(t *testing.T) {
	most := 0
	for seed := range uint64(400) {
		r := rand.New(rand.NewPCG(seed, 15))
		image, known := wildImage(r)
		d := diskOf(t, image)
		for range 30 {
			f := known[r.IntN(len(known))]
			at, seq, next := f.At, f.R.Seq, r.IntN(8)
			if r.IntN(4) == 0 {
				at, seq = somePlace(r, 128), 1+r.Uint64N(20)
			}
			want, on, number, then := modelScan(image, known, at, seq, next)
			found, l := scan(t, d, at, seq, next)
			wantFound(t, found, want)
			wantLog(t, l, on, number, then)
			most = max(most, len(found))
		}
	}
	if most < 10 {
		t.Errorf("no more than %d records were found: the disks are too wild", most)
	}
}

// R1: of disks of any bytes each call ends.
func TestScanOfAnyBytes(t *testing.T) {
	for seed := range uint64(30) {
		r := rand.New(rand.NewPCG(seed, 151))
		image := make([]string, 128)
		for at := range image {
			b := make([]byte, r.IntN(513))
			for i := range b {
				b[i] = byte(r.IntN(1 + r.IntN(256)))
			}
			image[at] = []string{"", "R", "P", "P\x00\x00\x00", "R\x01\x00\x00\x00\x00\x00\x01\x00\x00\x00\x00\x00\x00\x02\x00\x01"}[r.IntN(5)] + string(b)
			image[at] = image[at][:min(512, len(image[at]))]
		}
		d := diskOf(t, image)
		for at := -3; at < 140; at++ {
			for _, seq := range []uint64{0, 1, greatest, math.MaxUint64} {
				found, l, err := log.Scan(d, at, seq, r.IntN(10)-1)
				if (err == api.OK) != (l != nil) || l == nil && len(found) > 0 {
					t.Fatalf("Scan at %d, of %d: %d records, %d", at, seq, len(found), err)
				}
				l.SetNext(r.IntN(10))
				l.Room()
			}
		}
	}
}

// P15.1 to P15.3: calls in no order: what was written is found, and the log that is found goes on like the one that wrote.
func TestCallsInNoOrder(t *testing.T) {
	for seed := range uint64(60) {
		r := rand.New(rand.NewPCG(seed, 152))
		d := newDisk(t, 512)
		at, first := somePlace(r, 512), 1+r.Uint64N(1000)
		segments := r.Perm(31)
		segments = slices.DeleteFunc(segments, func(s int) bool { return s+1 == at/16 })
		l := begin(t, d, at, first, segments[0]+1)
		next := segments[0] + 1
		var all []api.Found
		for used := 0; ; {
			if l.Next() == 0 {
				if used++; used == len(segments) {
					break
				}
				next = segments[used] + 1
				refuseWrite(t, d, l, writing{cp: 1, items: someItems(1, 1)}, api.ErrLogNext)
				setNext(t, l, next)
			}
			if r.IntN(9) == 0 {
				refuseWrite(t, d, l, wrongWritings(l.Room())[r.IntN(20)], api.ErrArg)
			}
			count := 1 + r.IntN(l.Room())
			all = append(all, write(t, l, writings(count)[r.IntN(3)]))
			if r.IntN(5) == 0 {
				found, m := scan(t, d, at, first, 1)
				wantFound(t, found, all)
				wantLog(t, m, l.At(), l.Seq(), l.Next())
				l = m
			}
		}
		found, _ := scan(t, d, at, first, 0)
		wantFound(t, found, all)
	}
}

// crashing is a log on a disk that crashes again and again.
type crashing struct {
	t        *testing.T
	r        *rand.Rand
	d        *disk.Disk
	l        *log.Log
	answered []api.Found
	segments []int // those that have not come next yet
	mark     int
}

// next is what a Write is asked for, where the log goes on; false when no segments are left.
func (c *crashing) next() (writing, bool) {
	if c.l.Next() == 0 {
		if len(c.segments) == 0 {
			return writing{}, false
		}
		setNext(c.t, c.l, c.segments[0])
		c.segments = c.segments[1:]
	}
	c.mark++
	count := 1 + c.r.IntN(c.l.Room())
	return writing{cp: uint64(c.mark), items: someItems(count, c.mark), syncs: c.r.IntN(2) == 0}, true
}

// crash leaves another disk, and wants all that was answered to be found there, and at most the one under way behind it; that log goes on.
func (c *crashing) crash(under api.Found) {
	c.t.Helper()
	fates := []api.Fate{{Torn: none}, {Keep: math.MaxUint64, Torn: none}, {Torn: 0}, {Keep: math.MaxUint64, Torn: 0}}
	for range 4 {
		fates = append(fates, api.Fate{Keep: c.r.Uint64(), Torn: c.r.IntN(17) - 1})
	}
	goesOn := c.r.IntN(len(fates))
	for i, f := range fates {
		left := c.d.Crash(f)
		found, l := scan(c.t, left, 16, 1, 3)
		want := c.answered
		if len(found) > len(want) {
			want = append(slices.Clone(want), under)
		}
		wantFound(c.t, found, want)
		if i == goesOn {
			defer func() { c.d, c.l, c.answered = left, l, want }()
		}
	}
}

// P15.4: whatever crashes, whenever the power goes, all that was answered is found, and at most the one under way; behind further crashes, likewise.
func TestCrashes(t *testing.T) {
	crashes := 0
	for seed := range uint64(80) {
		r := rand.New(rand.NewPCG(seed, 153))
		d := newDisk(t, 256)
		c := &crashing{t: t, r: r, d: d, l: begin(t, d, 16, 1, 3), segments: []int{2, 9, 15, 4, 5, 14, 6, 8}}
		for {
			w, is := c.next()
			if !is {
				break
			}
			under := w.wrote(c.l.At(), c.l.Seq(), c.l.Next())
			c.d.CutAt(c.d.Ops() + r.IntN(3*len(w.items)+12))
			if places, err := c.l.Write(w.cp, w.items, w.ends, w.syncs); err == api.OK {
				c.answered = append(c.answered, under)
				continue
			} else if len(places) > 0 || err != api.ErrDiskOff {
				t.Fatalf("Write: %v, %d", places, err)
			}
			c.crash(under)
			crashes++
		}
		c.d.CutAt(none)
		found, _ := scan(t, c.d, 16, 1, 3)
		wantFound(t, found, c.answered)
	}
	if crashes < 300 {
		t.Errorf("%d crashes alone", crashes)
	}
}

// P15.4: at each operation, with each fate of the loose writes.
func TestCrashAtEachOperation(t *testing.T) {
	for _, counts := range [][]int{{3, 2}, {11, 2, 4}, {14, 1}} {
		for cut := range 40 {
			d := newDisk(t, 128)
			d.CutAt(cut)
			l := begin(t, d, 16, 1, 3)
			var all []api.Found
			answered := 0
			for i, count := range counts {
				w := writing{cp: 1, items: someItems(count, i)}
				if l.Next() == 0 {
					setNext(t, l, 5)
				}
				all = append(all, w.wrote(l.At(), l.Seq(), l.Next()))
				if _, err := l.Write(w.cp, w.items, w.ends, w.syncs); err != api.OK {
					break
				}
				answered++
			}
			for keep := range uint64(8) {
				for torn := none; torn < 4; torn++ {
					found, _ := scan(t, d.Crash(api.Fate{Keep: keep * 0x2492492492492492, Torn: torn}), 16, 1, 3)
					if len(found) < answered || len(found) > len(all) {
						t.Fatalf("the power gone at %d: %d records; %d were answered", cut, len(found), answered)
					}
					wantFound(t, found, all[:len(found)])
				}
			}
		}
	}
}

// R3: items are neither written into nor kept, their spare room neither; nor does a list that is answered reach what another call answers.
func TestListsStandAlone(t *testing.T) {
	d := newDisk(t, 128)
	l := begin(t, d, 16, 1, 2)
	room := append(make([]api.Item, 0, 20), someItems(5, 1)...)
	spare := room[:20]
	spare[5] = api.Item{Content: "spare"}
	places, err := l.Write(1, room, false, false)
	if err != api.OK || spare[5].Content != "spare" || !slices.Equal(room, someItems(5, 1)) {
		t.Fatal("the list that was handed in is written into")
	}
	want := []api.Found{writing{cp: 1, items: someItems(5, 1)}.wrote(16, 1, 2)}
	clear(spare)
	clear(places[:cap(places)])
	want = append(want, write(t, l, writing{cp: 1, items: someItems(4, 2)}))
	for range 2 {
		found, m := scan(t, d, 16, 1, 2)
		wantFound(t, found, want)
		for i := range found {
			_ = append(found[i].R.L, api.Entry{Kind: 9})
			_ = append(found[i].Contents, "x")
		}
		wantFound(t, found, want)
		for i := range found {
			clear(found[i].R.L[:cap(found[i].R.L)])
			if i+1 < len(found) {
				wantFound(t, found[i+1:], want[i+1:])
			}
			clear(found[i].Contents[:cap(found[i].Contents)])
		}
		clear(found[:cap(found)])
		wantLog(t, m, l.At(), l.Seq(), l.Next())
	}
}

// sharesMemory tells whether two texts share a byte.
func sharesMemory(a string, b string) bool {
	from, to := uintptr(unsafe.Pointer(unsafe.StringData(a))), uintptr(unsafe.Pointer(unsafe.StringData(b)))
	return from < to+uintptr(len(b)) && to < from+uintptr(len(a))
}

// R3: what is found is new memory each time.
func TestContentsAreNewMemory(t *testing.T) {
	d := newDisk(t, 128)
	l := begin(t, d, 16, 1, 2)
	content := strings.Repeat("c", 508)
	item := api.Item{E: data(1, 0, 1), Content: content}
	write(t, l, writing{cp: 1, items: []api.Item{item, item}})
	one, _ := scan(t, d, 16, 1, 2)
	two, _ := scan(t, d, 16, 1, 2)
	texts := slices.Concat([]string{content}, one[0].Contents, two[0].Contents)
	for i, a := range texts {
		for _, b := range texts[:i] {
			if sharesMemory(a, b) {
				t.Error("two texts share memory")
			}
		}
	}
}

// R4: logs of one disk know nothing of each other, nor of a disk that a crash left.
func TestLogsStandAlone(t *testing.T) {
	d := newDisk(t, 128)
	one, two := begin(t, d, 16, 1, 2), begin(t, d, 16, 1, 2)
	write(t, one, writing{cp: 1, items: someItems(3, 1)})
	wantLog(t, two, 16, 1, 2)
	setNext(t, two, 4)
	wantLog(t, one, 20, 2, 2)
	found, three := scan(t, d, 16, 1, 7)
	_, four := scan(t, d, 16, 1, 7)
	write(t, three, writing{cp: 1, items: someItems(3, 2)})
	wantLog(t, four, 20, 2, 2)
	wantLog(t, one, 20, 2, 2)
	wantFound(t, found, []api.Found{writing{cp: 1, items: someItems(3, 1)}.wrote(16, 1, 2)})
	left := d.Crash(api.Fate{Torn: none})
	write(t, three, writing{cp: 1, items: someItems(3, 3)})
	found, _ = scan(t, left, 16, 1, 7)
	if len(found) != 2 {
		t.Errorf("%d records on the disk that the crash left", len(found))
	}
}
