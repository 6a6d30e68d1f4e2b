package commit_test

import (
	"maps"
	"math"
	"slices"
	"strconv"
	"strings"
	"testing"

	"nautilus/api"
	"nautilus/commit"
	"nautilus/disk"
	"nautilus/plain"
	"nautilus/usage"
)

const greatest = 1<<48 - 1 // the greatest time

func newDisk(t *testing.T, blocks int) *disk.Disk {
	t.Helper()
	d, err := disk.New(blocks)
	if err != api.OK {
		t.Fatalf("disk.New(%d): %d", blocks, err)
	}
	return d
}

func format(t *testing.T, d *disk.Disk, now uint64) *commit.Volume {
	t.Helper()
	v, err := commit.Format(d, now)
	if v == nil || err != api.OK {
		t.Fatalf("Format at %d: %d", now, err)
	}
	return v
}

// pair is a volume, the disk on which it lies, and the model that it is held against.
type pair struct {
	t *testing.T
	d *disk.Disk
	v *commit.Volume
	m model
}

func newPair(t *testing.T, blocks int) *pair {
	t.Helper()
	d := newDisk(t, blocks)
	return &pair{t: t, d: d, v: format(t, d, 1), m: newModel(1)}
}

// do does a call, which must answer as the model has it.
func (p *pair) do(c call) answer {
	p.t.Helper()
	m, want := p.m.do(c)
	if got := c.do(p.v); got != want {
		p.t.Fatalf("%v: %v, want %v", c, got, want)
	}
	p.m = m
	return want
}

// file does a call of files, which must be done.
func (p *pair) file(c api.Call) {
	p.t.Helper()
	l, r := plain.Do(p.m.files, c, 7)
	if r.Code != api.OK {
		p.t.Fatalf("%+v: %d", c, r.Code)
	}
	p.do(call{what: "Set", l: l})
}

func (p *pair) create(path string, data string) {
	p.t.Helper()
	p.file(api.Call{Op: api.OpCreate, Path: path, Mode: 420})
	p.write(path, 0, data)
}

func (p *pair) write(path string, off int64, data string) {
	p.t.Helper()
	p.file(api.Call{Op: api.OpWrite, Path: path, Off: off, Data: data})
}

func (p *pair) trunc(path string, size int64) {
	p.t.Helper()
	p.file(api.Call{Op: api.OpTrunc, Path: path, N: size})
}

func (p *pair) commit(now uint64) {
	p.t.Helper()
	p.do(call{what: "Commit", now: now})
}

func (p *pair) sync(ino uint32) {
	p.t.Helper()
	p.do(call{what: "Sync", ino: ino, now: 9})
}

// want holds what the volume tells, and what lies on its disk, against the model. Nothing may be loose.
func (p *pair) want(when any) {
	p.t.Helper()
	p.m.want(p.t, p.v, when)
	if p.d.Loose() != 0 {
		p.t.Fatalf("%v: %d writes are loose", when, p.d.Loose())
	}
	f, ok := find(p.t, p.d)
	if !ok || !f.told().isSame(p.m) {
		p.t.Fatalf("%v: on the disk lies something else", when)
	}
	wantUsage(p.t, p.v, f, when)
}

// wantUsage holds a volume's segments against what was found on its disk.
func wantUsage(t *testing.T, v *commit.Volume, f found, when any) {
	t.Helper()
	l := v.Usage()
	if !usage.Right(l) || len(l) != f.d.Blocks()/16 {
		t.Fatalf("%v: Usage %v", when, l)
	}
	needed := make([]int, len(l))
	for at := range f.needed() {
		needed[at/16]++
	}
	active := 0
	for i, s := range l {
		if s.State == api.Active {
			active++
		}
		if s.Begun != 0 || i > 0 && s.Live < needed[i] || s.State == api.Clean && s.Live != 0 || i > 0 && s.State == api.Dirty && s.Live == 0 {
			t.Fatalf("%v: the segment %d is %+v, and %d of its blocks live", when, i, s, needed[i])
		}
	}
	if active < 1 || active > 2 {
		t.Fatalf("%v: %d segments are written now or next: %v", when, active, l)
	}
}

// text is one of so many bytes, none 0; those of two marks differ in each content.
func text(count int, mark byte) string {
	b := make([]byte, count)
	for i := range b {
		b[i] = 1 + (byte(i/508)*5+byte(i)+mark*3)%255
	}
	return string(b)
}

func name(i int) string {
	return "/f" + strconv.Itoa(i)
}

func zeros(count int) string {
	return strings.Repeat("\x00", count)
}

func TestExamples(t *testing.T) {
	d := newDisk(t, 128)
	v := format(t, d, 3)
	if l := v.Checks(); !slices.Equal(l, []api.Check{{Cp: 1, Tick: 3}}) {
		t.Errorf("Checks behind Format: %v", l)
	}
	if l, err := v.View(1); err != api.OK || !slices.Equal(l, plain.New()) {
		t.Errorf("View(1): %v, %d", l, err)
	}
	if err := v.Commit(5); err != api.OK {
		t.Errorf("Commit: %d", err)
	}
	if err := v.Delete(1); err != api.OK {
		t.Errorf("Delete(1): %d", err)
	}
	if err := v.Delete(2); err != api.ErrCpLast {
		t.Errorf("Delete(2): %d", err)
	}
	if l, err := v.View(1); l != nil || err != api.ErrCpNone {
		t.Errorf("View(1) behind Delete: %v, %d", l, err)
	}
}

func TestFormat(t *testing.T) {
	for _, blocks := range []int{128, 144, 512, 4096} {
		for _, now := range []uint64{0, 3, greatest} {
			d := newDisk(t, blocks)
			p := pair{t, d, format(t, d, now), newModel(now)}
			p.want(blocks)
			if clean := usage.CleanOnes(p.v.Usage()); clean < blocks/16-3 {
				t.Errorf("of %d blocks %d segments are clean behind Format", blocks, clean)
			}
		}
	}
}

func TestFormatRefuses(t *testing.T) {
	for _, now := range []uint64{0, greatest, greatest + 1, math.MaxUint64} {
		for _, d := range []*disk.Disk{nil, {}} {
			if v, err := commit.Format(d, now); v != nil || err != api.ErrNil {
				t.Errorf("Format of no disk at %d: %d", now, err)
			}
		}
		if now <= greatest {
			continue
		}
		d := newDisk(t, 128)
		if v, err := commit.Format(d, now); v != nil || err != api.ErrArg || d.Ops() != 0 {
			t.Errorf("Format at %d: %d", now, err)
		}
	}
}

// used is a disk with a volume of several checkpoints, and its model.
func used(t *testing.T) *pair {
	t.Helper()
	p := newPair(t, 128)
	for i := range 6 {
		p.create(name(i), text(400, byte(i)))
		p.commit(uint64(i))
	}
	p.write(name(0), 100, "synced")
	p.sync(3)
	p.want("used")
	return p
}

func TestFormatOfAUsedDisk(t *testing.T) {
	p := used(t)
	for _, now := range []uint64{4, 5} {
		p.v, p.m = format(t, p.d, now), newModel(now)
		p.want(now)
	}
	for i := range 5 {
		p.create(name(i), text(400, byte(i)))
		p.commit(uint64(i))
		p.want(i)
	}
}

// TestFormatCutShort: what was there is found wholly, or nothing is, or what Format makes.
func TestFormatCutShort(t *testing.T) {
	was := used(t)
	for cut := 0; ; cut++ {
		d, _ := disk.Of(was.d.Image())
		d.CutAt(cut)
		v, err := commit.Format(d, 5)
		if err == api.OK {
			if cut < 10 {
				t.Fatalf("Format needs but %d operations", cut)
			}
			return
		}
		if v != nil || err != api.ErrDiskOff {
			t.Fatalf("cut at %d: %d", cut, err)
		}
		for keep := range uint64(16) {
			for torn := range d.Loose() + 1 {
				f, ok := find(t, d.Crash(api.Fate{Keep: keep, Torn: torn - 1}))
				if ok && !f.told().isSame(was.m) && !f.told().isSame(newModel(5)) {
					t.Fatalf("cut at %d, of what was there a part is found", cut)
				}
			}
		}
	}
}

func TestNoVolume(t *testing.T) {
	for _, v := range []*commit.Volume{nil, {}} {
		for _, err := range []api.Errno{v.Set(plain.New()), v.Set(nil), v.Commit(1), v.Commit(math.MaxUint64), v.Sync(3, 1), v.Mark(1, true), v.Delete(1), v.Clean(3)} {
			if err != api.ErrNil {
				t.Errorf("a call of no volume: %d", err)
			}
		}
		if l := v.Nodes(); l != nil {
			t.Errorf("Nodes of no volume: %v", l)
		}
		if l := v.Checks(); l != nil {
			t.Errorf("Checks of no volume: %v", l)
		}
		if l := v.Usage(); l != nil {
			t.Errorf("Usage of no volume: %v", l)
		}
		if l, err := v.View(1); l != nil || err != api.ErrNil {
			t.Errorf("View of no volume: %v, %d", l, err)
		}
		if count, err := v.Expire(9, 0); count != 0 || err != api.ErrNil {
			t.Errorf("Expire of no volume: %d, %d", count, err)
		}
	}
}

func TestSet(t *testing.T) {
	p := newPair(t, 256)
	p.create("/a", text(700, 1))
	p.want("set")
	long := append(slices.Clone(p.m.files), make([]api.Node, 20)...)
	p.do(call{what: "Set", l: long})
	p.want("places of none behind")
	p.commit(4)
	p.want("committed")
	if l, _ := p.v.View(2); len(l) != 4 {
		t.Errorf("View of a checkpoint of places of none: %d places", len(l))
	}
	p.do(call{what: "Set", l: plain.New()})
	p.want("the root alone")
	p.commit(5)
	p.want("the root alone, committed")
}

func TestSetRefuses(t *testing.T) {
	p := newPair(t, 256)
	p.create("/a", "first")
	right := p.m.files
	turned := func(change func(l []api.Node)) []api.Node {
		l := slices.Clone(right)
		change(l)
		return l
	}
	for i, l := range [][]api.Node{
		nil,
		right[:2],
		make([]api.Node, 4),
		make([]api.Node, 241),
		turned(func(l []api.Node) { l[3].Links = 2 }),
		turned(func(l []api.Node) { l[3].Kind = 4 }),
		turned(func(l []api.Node) { l[3].Time = 1 << 48 }),
		turned(func(l []api.Node) { l[3].Data = zeros(200001) }),
		turned(func(l []api.Node) { l[2].Data = "x" }),
		turned(func(l []api.Node) { l[1] = l[3] }),
	} {
		ops := p.d.Ops()
		p.do(call{what: "Set", l: l})
		if plain.Right(l) || p.d.Ops() != ops {
			t.Errorf("wrong files %d", i)
		}
	}
	p.want("behind wrong files")
}

// TestRoom: behind a Set that was done a checkpoint can be made, and leaves the reserve; what is refused changes nothing.
func TestRoom(t *testing.T) {
	for _, blocks := range []int{128, 160, 256, 1024} {
		for _, size := range []int{1, 508, 3000, 15000} {
			p := newPair(t, blocks)
			done, refused := 0, 0
			for i := 0; refused < 5 && done < 100; i++ {
				l, r := plain.Do(p.m.files, api.Call{Op: api.OpCreate, Path: name(i), Mode: 1}, 1)
				l, _ = plain.Do(l, api.Call{Op: api.OpWrite, Path: name(i), Data: text(size, byte(i))}, 1)
				switch err := p.v.Set(l); {
				case r.Code != api.OK:
					t.Fatalf("OpCreate: %d", r.Code)
				case err == api.ErrSpace:
					refused++
					p.want("refused")
					continue
				case err != api.OK:
					t.Fatalf("Set: %d", err)
				}
				p.m.files = l
				p.commit(uint64(i))
				done++
				if clean := usage.CleanOnes(p.v.Usage()); clean < api.Reserve {
					t.Fatalf("behind Set and Commit %d segments are clean", clean)
				}
			}
			p.want("full")
			if done == 0 || blocks < 1024 && refused == 0 {
				t.Errorf("of %d blocks, files of %d bytes: %d done, %d refused", blocks, size, done, refused)
			}
		}
	}
}

// TestRoomWithoutSpace: files that no disk has room for, or too few numbers are left for.
func TestRoomWithoutSpace(t *testing.T) {
	for _, blocks := range []int{128, 4096} {
		p := newPair(t, blocks)
		p.create("/a", "first")
		l := p.m.files
		for i := range 5 {
			path := name(i)
			l, _ = plain.Do(l, api.Call{Op: api.OpCreate, Path: path}, 1)
			l, _ = plain.Do(l, api.Call{Op: api.OpWrite, Path: path, Data: text(api.MaxFile, byte(i))}, 1)
		}
		ops := p.d.Ops()
		if err := p.v.Set(l); err != api.ErrSpace || p.d.Ops() != ops {
			t.Errorf("Set of a million bytes on %d blocks: %d", blocks, err)
		}
		p.want("refused")
		p.commit(2)
		p.want("committed")
	}
}

// TestSparse: bytes 0 ask for no room, but in maps.
func TestSparse(t *testing.T) {
	p := newPair(t, 128)
	for i := range 4 {
		p.create(name(i), "x")
		p.trunc(name(i), api.MaxFile)
		p.write(name(i), 100000, "y")
	}
	p.create("/a", "x")
	p.commit(2)
	p.want("committed")
	p.trunc("/a", api.MaxFile)
	p.sync(7)
	p.want("longer")
	p.trunc(name(3), 100001)
	p.trunc(name(3), 150000)
	p.sync(6)
	p.want("cut, and longer")
	p.commit(3)
	p.want("committed again")
}

// TestGivenBack: of what was written, and is nowhere any more, nothing lives.
func TestGivenBack(t *testing.T) {
	p := newPair(t, 1024)
	p.create("/a", "")
	p.commit(2)
	for i, size := range []int{0, 300, 4000, 70000, 150000, 70000, 4000, 300, 0} {
		p.trunc("/a", 0)
		p.write("/a", 0, text(size, byte(i)))
		p.commit(uint64(i))
		p.trunc("/a", int64(size/2))
		p.commit(uint64(i))
	}
	p.file(api.Call{Op: api.OpUnlink, Path: "/a"})
	p.commit(9)
	p.do(call{what: "Expire", now: 1 << 20})
	p.want("given back")
	f, _ := find(t, p.d)
	if l := f.said(); len(l) != 1 { // that of the file of inodes
		t.Errorf("of the root alone %d numbers live: %v", len(l), l)
	}
}

// TestNothingToDo: what changes nothing writes nothing.
func TestNothingToDo(t *testing.T) {
	p := newPair(t, 256)
	p.commit(5)
	ops := p.d.Ops()
	p.do(call{what: "Expire", now: 5, keep: 4})
	p.do(call{what: "Mark", cp: 1})
	p.do(call{what: "Set", l: p.m.files})
	if p.d.Ops() != ops {
		t.Error("what changes nothing writes")
	}
	p.want("nothing done")
}

// TestReserve: where there is no room for files any more, all else is done, again and again.
func TestReserve(t *testing.T) {
	for _, size := range []int{1, 400, 2000} {
		p := newPair(t, 128)
		for i := 0; ; i++ {
			l, _ := plain.Do(p.m.files, api.Call{Op: api.OpCreate, Path: name(i)}, 1)
			l, _ = plain.Do(l, api.Call{Op: api.OpWrite, Path: name(i), Data: text(size, byte(i))}, 1)
			if err := p.v.Set(l); err == api.ErrSpace {
				break
			}
			p.m.files = l
			p.commit(uint64(i))
		}
		for i := range 40 {
			p.do(call{what: "Mark", cp: p.m.newest().c.Cp, snap: i%2 == 0})
		}
		p.want("marked")
		for range 10 {
			p.commit(500)
		}
		p.want("committed")
		for range 9 {
			p.do(call{what: "Delete", cp: p.m.newest().c.Cp - 1})
			p.commit(500)
		}
		p.do(call{what: "Expire", now: 2})
		p.do(call{what: "Expire", now: 1 << 20})
		p.want("expired")
		for range 10 {
			p.do(call{what: "Clean", seg: dirtyOne(p)})
		}
		p.want("cleaned")
	}
}

// guaranteed are files that have at most two thousand bytes together, and at most twelve places, others each time.
func guaranteed(i int) []api.Node {
	l := plain.New()
	count := []int{9, 1, 5, 9, 8, 9, 2, 9, 9, 9, 9}[i]
	size := []int{180, 1900, 390, 1, 230, 180, 950, 180, 100, 150, 190}[i]
	for k := range count {
		path := name(i*20 + k)
		l, _ = plain.Do(l, api.Call{Op: api.OpCreate, Path: path, Mode: i}, uint64(i))
		l, _ = plain.Do(l, api.Call{Op: api.OpWrite, Path: path, Data: text(size, byte(i+k))}, uint64(i))
	}
	return l
}

// TestRoomOfTenCalls: there is room as long as the chapter says so.
func TestRoomOfTenCalls(t *testing.T) {
	for _, blocks := range []int{512, 528, 4096} {
		p := newPair(t, blocks)
		for i := range 11 {
			l := guaranteed(i)
			bytes := 0
			for _, n := range l {
				bytes += len(n.Data)
			}
			if len(l) > 12 || bytes > 2000 {
				t.Fatalf("%d: %d places, %d bytes", i, len(l), bytes)
			}
			p.do(call{what: "Set", l: l})
			if i < 10 {
				p.commit(uint64(i))
			}
		}
		p.want("ten checkpoints")
	}
}

// TestRoomOfTenSyncs: likewise, where syncs of a file stand behind each other.
func TestRoomOfTenSyncs(t *testing.T) {
	p := newPair(t, 512)
	p.create("/a", text(1900, 1))
	p.sync(3)
	for i := range 9 {
		p.write("/a", 0, text(1900, byte(i+2)))
		p.sync(3)
		p.want(i)
	}
	p.write("/a", 0, text(1900, 50))
	p.want("ten syncs")
}

func TestCommit(t *testing.T) {
	p := newPair(t, 256)
	for i, now := range []uint64{5, 5, 0, greatest, 1} { // times need not rise
		p.create(name(i), text(300*i, byte(i)))
		p.commit(now)
		p.want(i)
	}
	p.commit(2) // nothing has changed
	p.want("unchanged")
	ops := p.d.Ops()
	for _, now := range []uint64{greatest + 1, math.MaxUint64} {
		p.commit(now)
	}
	if p.d.Ops() != ops {
		t.Error("a Commit that is refused writes")
	}
	p.want("refused")
}

func TestCommitOfAFullTable(t *testing.T) {
	p := newPair(t, 512)
	p.create("/a", "first")
	for i := range 107 {
		p.commit(uint64(i))
	}
	p.want("full")
	for _, now := range []uint64{3, 1 << 48} {
		if got := p.do(call{what: "Commit", now: now}); got.err == api.OK {
			t.Fatal("a checkpoint too many")
		}
	}
	p.want("refused")
	if err := p.v.Set(p.m.files); err != api.ErrSpace { // for no checkpoint could be made now
		t.Errorf("Set beside 108 checkpoints: %d", err)
	}
	p.do(call{what: "Delete", cp: 50})
	p.write("/a", 3, "second")
	p.commit(4)
	p.want("one for another")
	if l := p.v.Checks(); len(l) != 108 || l[107].Cp != 109 {
		t.Errorf("the newest is %v", l[107])
	}
}

func TestSync(t *testing.T) {
	p := newPair(t, 256)
	p.create("/a", text(1200, 1))
	p.file(api.Call{Op: api.OpMkdir, Path: "/d"})
	p.file(api.Call{Op: api.OpSymlink, Path: "/l", Data: "a"})
	p.create("/d/b", text(600, 2))
	for _, ino := range []uint32{0, 1, 2, 4, 5, 7, 239, 240, 1 << 31, math.MaxUint32} { // places of none, directories, a link
		if got := p.do(call{what: "Sync", ino: ino, now: 1 << 48}); got.err != api.ErrFirst {
			t.Fatalf("Sync(%d): %d", ino, got.err)
		}
	}
	p.sync(3) // files are others: a checkpoint
	p.want("first")
	p.write("/a", 508, "changed")
	p.write("/d/b", 9, "changed")
	p.sync(3)
	p.want("a alone")
	p.sync(6)
	p.want("b, too")
	p.trunc("/a", 30)
	p.sync(3)
	p.want("cut")
	p.trunc("/a", 3000)
	p.file(api.Call{Op: api.OpTouch, Path: "/d/b", N: greatest})
	p.sync(6)
	p.want("touched")
	p.sync(3)
	p.want("longer")
	p.commit(10)
	p.want("committed")
	if len(p.m.kept) != 3 {
		t.Errorf("%d checkpoints", len(p.m.kept))
	}
}

// TestSyncBackAndForth: what was synced counts, not what the newest checkpoint has.
func TestSyncBackAndForth(t *testing.T) {
	p := newPair(t, 256)
	first, second := text(1300, 1), text(1300, 2)
	p.create("/a", first)
	p.commit(2)
	for _, data := range []string{second, first, first[:600] + zeros(700), first, zeros(1300), first} {
		p.write("/a", 0, data)
		p.sync(3)
		p.want(len(data))
	}
	p.trunc("/a", 0)
	p.sync(3)
	p.trunc("/a", 1300)
	p.sync(3)
	p.want("bytes 0")
	p.write("/a", 0, first)
	p.sync(3)
	p.want("as at first")
}

// TestSyncOfNothing: a file that is as it was is synced as well.
func TestSyncOfNothing(t *testing.T) {
	p := newPair(t, 256)
	p.create("/a", "")
	p.commit(2)
	p.do(call{what: "Sync", ino: 3, now: math.MaxUint64}) // no checkpoint is made: the time does not count
	p.want("synced")
	p.do(call{what: "Mark", cp: 1, snap: true})
	p.commit(3)
	p.do(call{what: "Mark", cp: 1, snap: true})
	p.want("marked")
}

// TestSyncOfOthers: what else than in files is another one makes a checkpoint.
func TestSyncOfOthers(t *testing.T) {
	for i, c := range []api.Call{
		{Op: api.OpCreate, Path: "/new"},
		{Op: api.OpMkdir, Path: "/d/new"},
		{Op: api.OpSymlink, Path: "/new", Data: "x"},
		{Op: api.OpUnlink, Path: "/l"},
		{Op: api.OpUnlink, Path: "/b"},
		{Op: api.OpRmdir, Path: "/d"},
		{Op: api.OpRename, Path: "/a", To: "/c"},
		{Op: api.OpLink, Path: "/a", To: "/c"},
		{Op: api.OpChmod, Path: "/a", Mode: 1},
		{Op: api.OpChmod, Path: "/d", Mode: 1},
		{Op: api.OpTouch, Path: "/d", N: 1},
	} {
		p := newPair(t, 256)
		p.create("/a", "first")
		p.file(api.Call{Op: api.OpMkdir, Path: "/d"})
		p.file(api.Call{Op: api.OpSymlink, Path: "/l", Data: "a"})
		p.create("/b", "second")
		p.commit(2)
		p.write("/a", 0, "f")
		p.sync(3)
		p.file(c)
		p.do(call{what: "Sync", ino: 3, now: greatest + 1})
		p.sync(3)
		p.want(i)
		if l := p.v.Checks(); len(l) != 3 || l[2].Tick != 9 {
			t.Errorf("%+v: %v", c, l)
		}
	}
}

// TestSyncFillsTheDisk: up to ErrSpace, and then a checkpoint can be made.
func TestSyncFillsTheDisk(t *testing.T) {
	for _, size := range []int{10, 2000, 9000} {
		p := newPair(t, 128)
		p.create("/a", text(size, 1))
		p.commit(2)
		count := 0
		for ; count < 1000; count++ {
			p.write("/a", 0, text(size, byte(count+2)))
			c := call{what: "Sync", ino: 3, now: 9}
			m, _ := p.m.do(c)
			if err := c.do(p.v).err; err == api.ErrSpace {
				break
			} else if err != api.OK {
				t.Fatalf("Sync: %d", err)
			}
			p.m = m
		}
		p.want("full")
		if count == 0 || count == 1000 {
			t.Errorf("%d syncs of %d bytes", count, size)
		}
		p.commit(3)
		p.want("committed")
		if clean := usage.CleanOnes(p.v.Usage()); clean < api.Reserve {
			t.Errorf("%d segments are clean", clean)
		}
	}
}

// sizes are those at which contents, and a map's depth, are other ones.
func sizes() []int {
	return []int{0, 1, 507, 508, 509, 1016, 3047, 3048, 3049, 3556, 64515, 64516, 64517, 65024, 129032, 129033, 199999, 200000}
}

func TestFilesOfEachSize(t *testing.T) {
	p := newPair(t, 4096)
	p.create("/a", "")
	p.create("/b", "beside")
	was := 0
	for i, size := range sizes() {
		for _, other := range []int{size, was, size} { // up, down, and up again
			p.trunc("/a", int64(other))
			if other > 0 {
				p.write("/a", int64(other-1), "x")
				p.write("/a", int64(other/2), text(min(600, other-other/2), byte(i)))
			}
			p.commit(uint64(size))
		}
		was = size
		p.want(size)
		p.do(call{what: "Expire", now: 1 << 20})
	}
}

// TestSyncsOfEachSize: from each size to each other one, with what was there, and bytes 0.
func TestSyncsOfEachSize(t *testing.T) {
	p := newPair(t, 2048)
	p.create("/a", "")
	p.commit(2)
	for _, size := range sizes() {
		for _, data := range []string{text(min(size, 40000), 5), zeros(size)} {
			p.trunc("/a", int64(size))
			p.sync(3)
			p.write("/a", int64(size-len(data)), data)
			p.sync(3)
			p.want(size)
			p.trunc("/a", int64(size/2))
			p.sync(3)
			p.trunc("/a", int64(size))
			p.sync(3)
			p.want(size)
			p.commit(3)
			p.do(call{what: "Expire", now: 1 << 20})
		}
	}
}

// TestManyFiles: as many as there may be, so that the file of inodes has a map, with holes.
func TestManyFiles(t *testing.T) {
	p := newPair(t, 1024)
	l := p.m.files
	for i := range 237 {
		l, _ = plain.Do(l, api.Call{Op: api.OpCreate, Path: name(i)}, 1)
	}
	if len(l) != 240 {
		t.Fatalf("%d places", len(l))
	}
	p.do(call{what: "Set", l: l})
	p.commit(2)
	p.want("many")
	for i := range 237 {
		if i < 100 || i == 236 {
			continue
		}
		l, _ = plain.Do(l, api.Call{Op: api.OpUnlink, Path: name(i)}, 1)
	}
	p.do(call{what: "Set", l: l})
	p.commit(3)
	p.want("a gap")
	l, _ = plain.Do(l, api.Call{Op: api.OpUnlink, Path: name(236)}, 1)
	p.do(call{what: "Set", l: l})
	p.commit(4)
	p.want("few")
}

func TestMarkAndDelete(t *testing.T) {
	p := newPair(t, 256)
	for i := range 5 {
		p.create(name(i), text(700, byte(i)))
		p.commit(uint64(i))
	}
	for _, c := range []call{
		{what: "Mark", cp: 2, snap: true},
		{what: "Mark", cp: 2, snap: true},
		{what: "Delete", cp: 2}, // a snapshot
		{what: "Delete", cp: 6}, // the newest
		{what: "Mark", cp: 6, snap: true},
		{what: "Delete", cp: 6}, // both
		{what: "Delete", cp: 0},
		{what: "Delete", cp: 7},
		{what: "Mark", cp: 7, snap: true},
		{what: "Mark", cp: math.MaxUint64},
		{what: "Delete", cp: 3},
		{what: "Delete", cp: 3}, // there no more
		{what: "Mark", cp: 3},
		{what: "Mark", cp: 2},
		{what: "Delete", cp: 2},
		{what: "Delete", cp: 1},
		{what: "Mark", cp: 6},
		{what: "Delete", cp: 6},
	} {
		p.do(c)
		p.want(c)
	}
}

func TestExpire(t *testing.T) {
	for _, keep := range []uint64{0, 1, 10, 30, 59, 60, 61, 1 << 47, math.MaxUint64 - 30, math.MaxUint64} {
		for _, now := range []uint64{0, 30, 31, 60, 61, 1000, math.MaxUint64} {
			p := newPair(t, 256)
			for i := range 6 {
				p.create(name(i), text(100, byte(i)))
				p.commit(uint64(i * 10))
			}
			p.do(call{what: "Mark", cp: 3, snap: true})
			p.do(call{what: "Expire", now: now, keep: keep})
			p.want(now)
		}
	}
}

// TestBusy: what changes checkpoints is refused while files are synced, whatever else is wrong.
func TestBusy(t *testing.T) {
	p := newPair(t, 256)
	p.create("/a", text(700, 1))
	p.commit(2)
	p.write("/a", 5, "x")
	p.sync(3)
	ops := p.d.Ops()
	for _, c := range []call{
		{what: "Mark", cp: 1, snap: true}, {what: "Mark", cp: 9},
		{what: "Delete", cp: 1}, {what: "Delete", cp: 2}, {what: "Delete", cp: 9},
		{what: "Expire", now: 1 << 20}, {what: "Expire"},
		{what: "Clean", seg: 1}, {what: "Clean"}, {what: "Clean", seg: -1}, {what: "Clean", seg: 99},
	} {
		if got := p.do(c); got.err != api.ErrBusy {
			t.Errorf("%v: %v", c, got)
		}
	}
	if p.d.Ops() != ops {
		t.Error("what is refused writes")
	}
	p.want("refused")
	p.commit(3)
	p.do(call{what: "Delete", cp: 1})
	p.want("done")
}

// TestUncommitted: what changes checkpoints leaves files that are not committed as they are, in the volume alone.
func TestUncommitted(t *testing.T) {
	p := newPair(t, 256)
	p.create("/a", text(700, 1))
	p.commit(2)
	p.commit(3)
	p.write("/a", 5, "new")
	p.create("/b", "new")
	for _, c := range []call{{what: "Mark", cp: 1, snap: true}, {what: "Delete", cp: 2}, {what: "Expire", now: 1 << 20}} {
		p.do(c)
		p.want(c)
	}
	p.commit(4)
	p.want("committed")
}

func TestUsage(t *testing.T) {
	p := newPair(t, 256)
	for i := range 20 {
		p.create(name(i), text(1500, byte(i)))
		if err := p.v.Commit(uint64(i)); err != api.OK {
			t.Fatalf("Commit: %d", err)
		}
		p.m, _ = p.m.commit(uint64(i))
		p.want(i)
		if usage.CleanOnes(p.v.Usage()) < 5 {
			break
		}
	}
	before := usage.CleanOnes(p.v.Usage())
	p.do(call{what: "Expire", now: 1 << 20})
	p.want("expired")
	if behind := usage.CleanOnes(p.v.Usage()); behind <= before-2 {
		t.Errorf("%d segments are clean, %d were", behind, before)
	}
}

func TestCleanRefuses(t *testing.T) {
	p := newPair(t, 256)
	for i := range 4 {
		p.create(name(i), text(2500, byte(i)))
		p.commit(uint64(i))
	}
	for i, s := range p.v.Usage() {
		if i > 0 && s.State == api.Dirty {
			continue
		}
		ops := p.d.Ops()
		if err := p.v.Clean(i); err != api.ErrArg || p.d.Ops() != ops {
			t.Errorf("Clean(%d), which is %+v: %d", i, s, err)
		}
	}
	for _, i := range []int{-1, 16, 17, math.MaxInt, math.MinInt} {
		if err := p.v.Clean(i); err != api.ErrArg {
			t.Errorf("Clean(%d): %d", i, err)
		}
	}
	p.want("refused")
}

// TestClean: whichever segment is cleaned, nothing lives there, and all that was told is told again.
func TestClean(t *testing.T) {
	p := newPair(t, 512)
	p.file(api.Call{Op: api.OpMkdir, Path: "/d"})
	p.file(api.Call{Op: api.OpSymlink, Path: "/l", Data: "a"})
	p.create("/d/a", "")
	for i := range 10 {
		p.write("/d/a", int64(i*3000), text(2500, byte(i)))
		p.create(name(i), text(900, byte(i)))
		p.commit(uint64(i))
	}
	p.do(call{what: "Mark", cp: 4, snap: true})
	p.do(call{what: "Delete", cp: 6})
	f, _ := find(t, p.d)
	said, cleaned := f.said(), 0
	for round := range 3 {
		for i := 1; i < 32; i++ {
			if p.v.Usage()[i].State != api.Dirty {
				continue
			}
			p.do(call{what: "Clean", seg: i})
			if s := p.v.Usage()[i]; s.Live != 0 || s.State == api.Dirty {
				t.Fatalf("the segment %d is cleaned, and is %+v", i, s)
			}
			p.want([]int{round, i})
			if f, _ := find(t, p.d); !maps.Equal(f.said(), said) {
				t.Fatalf("behind Clean(%d) records say something else of what was moved", i)
			}
			cleaned++
		}
	}
	if cleaned < 20 {
		t.Errorf("%d segments were cleaned", cleaned)
	}
}

// TestCleanOfTables: blocks of tables leave, too, when nothing of them changes.
func TestCleanOfTables(t *testing.T) {
	p := newPair(t, 512)
	p.create("/a", text(50000, 1))
	p.commit(2)
	for i := range 8 {
		p.write("/a", int64(i*2000), text(6000, byte(i+2))) // of numbers in one block of the table, for such in others
		p.commit(3)
		for segment, s := range p.v.Usage() {
			if segment > 0 && s.State == api.Dirty {
				p.do(call{what: "Clean", seg: segment})
				if s := p.v.Usage()[segment]; s.Live != 0 {
					t.Fatalf("the segment %d is cleaned, and is %+v", segment, s)
				}
			}
		}
		p.want(i)
	}
}

// TestCleanGivesBack: of segments that have little each some become clean.
func TestCleanGivesBack(t *testing.T) {
	p := newPair(t, 256)
	p.create("/a", "")
	for i := 0; usage.CleanOnes(p.v.Usage()) > 4; i++ {
		p.create(name(i), "kept")
		p.write("/a", 0, text(4500, byte(i)))
		p.commit(uint64(i))
		p.do(call{what: "Expire", now: 1 << 20})
	}
	before := usage.CleanOnes(p.v.Usage())
	for range 20 {
		at, ok, _ := usage.Choose(p.v.Usage(), api.Fewest, 0)
		if !ok {
			break
		}
		p.do(call{what: "Clean", seg: at})
	}
	p.want("cleaned")
	if behind := usage.CleanOnes(p.v.Usage()); behind < before+3 {
		t.Errorf("%d segments are clean, %d were", behind, before)
	}
}

// TestWithoutPower: what must be written is refused, and changes nothing; all else is told.
func TestWithoutPower(t *testing.T) {
	p := newPair(t, 256)
	p.create("/a", text(9000, 1))
	p.commit(2)
	p.commit(3)
	p.write("/a", 5, "x")
	calls := []call{
		{what: "Commit", now: 4}, {what: "Sync", ino: 3, now: 4}, {what: "Mark", cp: 1, snap: true}, {what: "Delete", cp: 1},
		{what: "Expire", now: 1 << 20}, {what: "Clean", seg: dirtyOne(p)},
	}
	for _, c := range calls {
		p.d.CutAt(0)
		if got := c.do(p.v); got != (answer{err: api.ErrDiskOff}) {
			t.Errorf("%v: %v", c, got)
		}
		p.file(api.Call{Op: api.OpTouch, Path: "/a", N: 77})
		p.want(c)
		p.d.CutAt(-1)
	}
	p.commit(5)
	p.want("with power")
}

func TestListsStandAlone(t *testing.T) {
	p := newPair(t, 256)
	p.create("/a", text(700, 1))
	p.commit(2)
	given := slices.Grow(slices.Clone(p.m.files), 8)
	p.do(call{what: "Set", l: given})
	p.m.files = slices.Clone(given)
	spare := given[:cap(given)]
	for i := range spare {
		if i >= len(given) && spare[i] != (api.Node{}) {
			t.Error("spare room is written into")
		}
		spare[i] = api.Node{Kind: 9}
	}
	p.want("what was handed in is another one")
	for range 2 {
		l := p.v.Nodes()
		clear(l)
		view, _ := p.v.View(2)
		clear(view)
		clear(p.v.Checks())
		clear(p.v.Usage())
		p.want("what was answered is another one")
	}
	_ = append(p.v.Nodes(), api.Node{Kind: 9})
	_ = append(p.v.Checks(), api.Check{Cp: 9})
	p.commit(3)
	p.want("committed")
}

// TestVolumesStandAlone: of two volumes, each on its disk, none tells of the other one.
func TestVolumesStandAlone(t *testing.T) {
	a, b := newPair(t, 256), newPair(t, 128)
	a.create("/a", text(700, 1))
	b.create("/b", text(300, 2))
	a.commit(2)
	b.commit(3)
	a.write("/a", 3, "x")
	b.write("/b", 3, "y")
	a.sync(3)
	a.want("a")
	b.want("b")
}
