package disk_test

import (
	"math"
	"math/rand/v2"
	"slices"
	"strings"
	"testing"
	"unsafe"

	"nautilus/api"
	"nautilus/disk"
)

// none is the Torn of a crash that tears nothing.
const none = -1

func block(c string) string {
	return strings.Repeat(c, 512)
}

func newDisk(t *testing.T, blocks int) *disk.Disk {
	t.Helper()
	d, err := disk.New(blocks)
	if d == nil || err != api.OK {
		t.Fatalf("New(%d): %d", blocks, err)
	}
	return d
}

func write(t *testing.T, d *disk.Disk, at int, s string) {
	t.Helper()
	if err := d.Write(at, s); err != api.OK {
		t.Fatalf("Write(%d): %d", at, err)
	}
}

func flush(t *testing.T, d *disk.Disk) {
	t.Helper()
	if err := d.Flush(); err != api.OK {
		t.Fatalf("Flush: %d", err)
	}
}

func wantRead(t *testing.T, d *disk.Disk, at int, want string) {
	t.Helper()
	if got, err := d.Read(at); got != want || err != api.OK {
		t.Fatalf("Read(%d) = %.3q .. %.3q of %d bytes, %d", at, got, got[len(got)/2:], len(got), err)
	}
}

func wantCounts(t *testing.T, d *disk.Disk, ops int, loose int) {
	t.Helper()
	if d.Ops() != ops || d.Loose() != loose {
		t.Fatalf("Ops = %d, Loose = %d; want %d, %d", d.Ops(), d.Loose(), ops, loose)
	}
}

// wantImage holds all that a disk tells of its blocks against a list.
func wantImage(t *testing.T, d *disk.Disk, want []string) {
	t.Helper()
	if d.Blocks() != len(want) {
		t.Fatalf("Blocks = %d; want %d", d.Blocks(), len(want))
	}
	if got := d.Image(); !slices.Equal(got, want) {
		t.Fatalf("Image has %d blocks, not all as they should be", len(got))
	}
	for at, s := range want {
		wantRead(t, d, at, s)
	}
}

func sizes() []int {
	return []int{128, 144, 160, 256, 512, 2048, 4080, 4096}
}

func wrongSizes() []int {
	return []int{0, 1, 16, 112, 127, 129, 130, 136, 143, 4095, 4097, 4104, 4112, 8192, 1 << 32, -1, -16, -128, -4096, math.MaxInt, math.MaxInt - 15, math.MinInt, math.MinInt + 128}
}

// P4.1: a disk of each size that may be has so many blocks, of bytes 0.
func TestNew(t *testing.T) {
	for _, size := range sizes() {
		d := newDisk(t, size)
		wantImage(t, d, slices.Repeat([]string{block("\x00")}, size))
		wantCounts(t, d, 0, 0)
	}
	for size := 128; size <= 4096; size += 16 {
		if got := newDisk(t, size).Blocks(); got != size {
			t.Fatalf("New(%d) has %d blocks", size, got)
		}
	}
}

// P4.1: no other size may be.
func TestNewRefuses(t *testing.T) {
	for _, size := range wrongSizes() {
		if d, err := disk.New(size); d != nil || err != api.ErrDiskSize {
			t.Errorf("New(%d): %v, %d", size, d != nil, err)
		}
	}
	for size := range 4200 {
		_, err := disk.New(size)
		if may := size >= 128 && size <= 4096 && size%16 == 0; may != (err == api.OK) {
			t.Errorf("New(%d): %d", size, err)
		}
	}
}

// someImage is texts of many lengths.
func someImage(size int) []string {
	image := make([]string, size)
	for at := range image {
		image[at] = strings.Repeat(string(rune('a'+at%26)), at*7%513)
	}
	return image
}

func padded(image []string) []string {
	out := make([]string, len(image))
	for at, s := range image {
		out[at] = s + strings.Repeat("\x00", 512-len(s))
	}
	return out
}

// P4.1: a disk of texts, bytes 0 behind each; they are there as if flushed.
func TestOf(t *testing.T) {
	for _, size := range sizes() {
		image := someImage(size)
		image[0], image[1], image[2], image[size-1] = "", block("z"), "\x00\xff", strings.Repeat("y", 511)
		d, err := disk.Of(image)
		if err != api.OK {
			t.Fatalf("Of %d texts: %d", size, err)
		}
		wantImage(t, d, padded(image))
		wantCounts(t, d, 0, 0)
		wantImage(t, d.Crash(api.Fate{}), padded(image))
	}
}

// P4.1: texts that are too many, too few, or one of them too long, wherever it stands.
func TestOfRefuses(t *testing.T) {
	refuse := func(image []string) {
		t.Helper()
		if d, err := disk.Of(image); d != nil || err != api.ErrDiskSize {
			t.Errorf("Of %d texts: %v, %d", len(image), d != nil, err)
		}
	}
	refuse(nil)
	refuse([]string{})
	for _, size := range wrongSizes() {
		if size > 0 && size <= 8192 {
			refuse(make([]string, size))
		}
	}
	for _, at := range []int{0, 1, 77, 127} {
		for _, length := range []int{513, 514, 1024, 65536} {
			image := someImage(128)
			image[at] = strings.Repeat("a", length)
			refuse(image)
			image[at] = block("\x00") + "\x00"
			refuse(image)
		}
	}
}

// wantNothing asks everything of what is no disk.
func wantNothing(t *testing.T, d *disk.Disk) {
	t.Helper()
	for _, at := range []int{0, -1, 128, math.MaxInt} {
		if s, err := d.Read(at); s != "" || err != api.ErrNil {
			t.Errorf("Read(%d) = %q, %d", at, s, err)
		}
		for _, s := range []string{"", "a", block("a")} {
			if err := d.Write(at, s); err != api.ErrNil {
				t.Errorf("Write(%d): %d", at, err)
			}
		}
	}
	if err := d.Flush(); err != api.ErrNil {
		t.Errorf("Flush: %d", err)
	}
	if d.Blocks() != 0 || d.Ops() != 0 || d.Loose() != 0 || len(d.Image()) != 0 {
		t.Error("it has something")
	}
	for _, f := range []api.Fate{{}, {Torn: -1}, {Keep: math.MaxUint64, Torn: 3}} {
		if d.Crash(f) != nil {
			t.Error("Crash leaves a disk")
		}
	}
}

// P4.1 and R4: of no disk there is nothing; nor where New and Of gave none, nor in Go's empty value; whatever CutAt says.
func TestNoDisk(t *testing.T) {
	var d *disk.Disk
	wrong, _ := disk.New(100)
	short, _ := disk.Of(make([]string, 100))
	for _, d := range []*disk.Disk{d, wrong, short, {}} {
		wantNothing(t, d)
		for _, n := range []int{0, -1, 5, math.MinInt} {
			d.CutAt(n)
			wantNothing(t, d)
		}
	}
}

// P4.2: what is read is what was written last, loose or not.
func TestWriteAndRead(t *testing.T) {
	for _, size := range sizes() {
		d := newDisk(t, size)
		want := slices.Repeat([]string{block("\x00")}, size)
		put := func(at int, s string) {
			write(t, d, at, s)
			want[at] = s
		}
		put(0, block("a"))
		put(size-1, block("b"))
		put(7, strings.Repeat("c", 256)+strings.Repeat("d", 256))
		wantImage(t, d, want)
		flush(t, d)
		wantImage(t, d, want)
		put(7, block("e"))
		put(7, block("f"))
		put(0, block("\x00"))
		wantImage(t, d, want)
		wantCounts(t, d, 7, 3)
	}
}

func wrongPlaces(size int) []int {
	return []int{-1, -2, -size, size, size + 1, 4096, 1 << 32, math.MaxInt, math.MinInt}
}

func wrongBlocks() []string {
	return []string{"", "a", strings.Repeat("a", 256), strings.Repeat("a", 511), strings.Repeat("a", 513), strings.Repeat("a", 1024)}
}

// P4.2 and R2: places that are none, bytes that are no block, the place first; what is refused is no operation, and changes nothing.
func TestWriteAndReadRefuse(t *testing.T) {
	for _, size := range []int{128, 144, 4096} {
		d, _ := disk.Of(someImage(size))
		write(t, d, 5, block("x"))
		want := d.Image()
		for _, at := range wrongPlaces(size) {
			if s, err := d.Read(at); s != "" || err != api.ErrDiskAt {
				t.Errorf("Read(%d) of %d blocks: %d bytes, %d", at, size, len(s), err)
			}
			for _, s := range append(wrongBlocks(), block("a")) {
				if err := d.Write(at, s); err != api.ErrDiskAt {
					t.Errorf("Write(%d) of %d bytes, of %d blocks: %d", at, len(s), size, err)
				}
			}
		}
		for _, at := range []int{0, 5, size - 1} {
			for _, s := range wrongBlocks() {
				if err := d.Write(at, s); err != api.ErrDiskLen {
					t.Errorf("Write(%d) of %d bytes: %d", at, len(s), err)
				}
			}
		}
		wantImage(t, d, want)
		wantCounts(t, d, 1, 1)
		wantImage(t, d.Crash(api.Fate{Torn: none}), padded(someImage(size)))
	}
}

// P4.2: writes are loose until a Flush that is done; a Flush is an operation even where nothing is loose.
func TestCounts(t *testing.T) {
	d := newDisk(t, 128)
	wantCounts(t, d, 0, 0)
	flush(t, d)
	wantCounts(t, d, 1, 0)
	write(t, d, 3, block("a"))
	write(t, d, 3, block("a"))
	wantCounts(t, d, 3, 2)
	if _, err := d.Read(3); err != api.OK {
		t.Fatal(err)
	}
	d.Image()
	d.Crash(api.Fate{})
	d.CutAt(50)
	wantCounts(t, d, 3, 2)
	flush(t, d)
	flush(t, d)
	wantCounts(t, d, 5, 0)
	write(t, d, 4, block("b"))
	d.CutAt(0)
	if err := d.Flush(); err != api.ErrDiskOff {
		t.Fatalf("Flush: %d", err)
	}
	wantCounts(t, d, 6, 1)
}

// wantOff tells that the power is gone for operations of any kind, right or not, and that nothing is done, though all may be asked.
func wantOff(t *testing.T, d *disk.Disk) {
	t.Helper()
	ops, loose, image := d.Ops(), d.Loose(), d.Image()
	for range 2 {
		for _, at := range []int{0, 3, -1, d.Blocks(), math.MinInt} {
			for _, s := range []string{block("q"), "", "q"} {
				if err := d.Write(at, s); err != api.ErrDiskOff {
					t.Fatalf("Write(%d) of %d bytes: %d", at, len(s), err)
				}
			}
		}
		if err := d.Flush(); err != api.ErrDiskOff {
			t.Fatalf("Flush: %d", err)
		}
	}
	wantCounts(t, d, ops, loose)
	wantImage(t, d, image)
	if s, err := d.Read(d.Blocks()); s != "" || err != api.ErrDiskAt {
		t.Fatalf("Read past the end: %d bytes, %d", len(s), err)
	}
}

// P4.2: the chapter's example: the power goes at the second operation.
func TestCutOfTheChapter(t *testing.T) {
	d := newDisk(t, 128)
	d.CutAt(1)
	write(t, d, 3, block("a"))
	wantOff(t, d)
	wantRead(t, d, 3, block("a"))
}

// P4.2: the power goes at each number of operations, writes and flushes alike, and comes back by CutAt alone.
func TestCutAt(t *testing.T) {
	for n := range 9 {
		d := newDisk(t, 128)
		d.CutAt(n)
		for i := range n {
			if i%3 == 2 {
				flush(t, d)
			} else {
				write(t, d, i, block("a"))
			}
			if err := d.Write(-1, ""); i+1 < n && err != api.ErrDiskAt {
				t.Fatalf("a wrong Write ahead of the cut: %d", err)
			}
		}
		wantCounts(t, d, n, d.Loose())
		wantOff(t, d)
		d.CutAt(n)
		wantOff(t, d)
		d.CutAt(n + 1)
		flush(t, d)
		wantOff(t, d)
	}
}

// P4.2: at a number that was passed the power goes at once; below 0, and far off, it stays.
func TestCutAtPassedOrFar(t *testing.T) {
	for _, n := range []int{0, 1, 4, 5} {
		d := newDisk(t, 128)
		for range 5 {
			write(t, d, 1, block("a"))
		}
		d.CutAt(n)
		wantOff(t, d)
		for i, far := range []int{-1, math.MinInt, -5, 100, math.MaxInt} {
			d.CutAt(far)
			write(t, d, 2, block(string(rune('a'+i))))
			flush(t, d)
			d.CutAt(n)
			wantOff(t, d)
		}
	}
}

// P4.2: CutAt speaks of all operations of the disk, not of those behind the call; it holds the last one said.
func TestCutAtCountsFromTheBeginning(t *testing.T) {
	d := newDisk(t, 128)
	write(t, d, 0, block("a"))
	flush(t, d)
	d.CutAt(2)
	d.CutAt(3)
	write(t, d, 1, block("b"))
	wantOff(t, d)
}

// P4.3: the chapter's example: a loose write is lost; torn, its first sector stays.
func TestCrashOfTheChapter(t *testing.T) {
	d := newDisk(t, 128)
	write(t, d, 3, block("a"))
	wantRead(t, d.Crash(api.Fate{Keep: 0, Torn: none}), 3, block("\x00"))
	wantRead(t, d.Crash(api.Fate{Keep: 0, Torn: 0}), 3, strings.Repeat("a", 256)+strings.Repeat("\x00", 256))
	wantRead(t, d.Crash(api.Fate{Keep: 1, Torn: none}), 3, block("a"))
	wantRead(t, d.Crash(api.Fate{Keep: 1, Torn: 0}), 3, strings.Repeat("a", 256)+strings.Repeat("\x00", 256))
}

// P4.3: of writes at one block those that stay count in their order; a torn one lays its first sector over what stayed ahead of it.
func TestCrashAtOneBlock(t *testing.T) {
	half := func(c string) string { return strings.Repeat(c, 256) }
	d := newDisk(t, 128)
	write(t, d, 9, block("o"))
	flush(t, d)
	for _, c := range []string{"a", "b", "c"} {
		write(t, d, 9, block(c))
	}
	for _, x := range []struct {
		keep uint64
		torn int
		want string
	}{
		{0, none, block("o")},
		{0b001, none, block("a")},
		{0b011, none, block("b")},
		{0b101, none, block("c")},
		{0b111, none, block("c")},
		{^uint64(0b111), none, block("o")},
		{0, 0, half("a") + half("o")},
		{0, 1, half("b") + half("o")},
		{0, 2, half("c") + half("o")},
		{0b001, 1, half("b") + half("a")},
		{0b001, 2, half("c") + half("a")},
		{0b111, 2, half("c") + half("b")},
		{0b111, 1, block("c")},
		{0b010, 0, block("b")},
		{0b110, 0, block("c")},
		{0b011, 3, block("b")},
		{0b011, 64, block("b")},
		{0b011, -64, block("b")},
		{0b011, math.MaxInt, block("b")},
		{0b011, math.MinInt, block("b")},
	} {
		got := d.Crash(api.Fate{Keep: x.keep, Torn: x.torn})
		wantRead(t, got, 9, x.want)
		wantRead(t, got, 8, block("\x00"))
	}
	wantRead(t, d, 9, block("c"))
}

// P4.3: bits of Keep go round behind the 64th write; Torn does not.
func TestCrashOfManyWrites(t *testing.T) {
	d := newDisk(t, 256)
	for at := range 200 {
		write(t, d, at, block("a"))
	}
	torn := strings.Repeat("a", 256) + strings.Repeat("\x00", 256)
	for bit := range 64 {
		for _, tear := range []int{none, bit, bit + 1, bit + 64, 199, 200} {
			want := slices.Repeat([]string{block("\x00")}, 256)
			for at := bit; at < 200; at += 64 {
				want[at] = block("a")
			}
			if tear >= 0 && tear < 200 {
				want[tear] = torn
			}
			if got := d.Crash(api.Fate{Keep: 1 << bit, Torn: tear}).Image(); !slices.Equal(got, want) {
				t.Fatalf("Keep of the bit %d, Torn %d", bit, tear)
			}
		}
	}
}

// P4.3: loose writes are numbered anew behind a Flush that is done, and not behind one that isn't.
func TestNumbersBehindFlush(t *testing.T) {
	d := newDisk(t, 128)
	write(t, d, 1, block("a"))
	write(t, d, 2, block("b"))
	flush(t, d)
	write(t, d, 3, block("c"))
	d.CutAt(0)
	if err := d.Flush(); err != api.ErrDiskOff {
		t.Fatalf("Flush: %d", err)
	}
	d.CutAt(none)
	write(t, d, 4, block("d"))
	for at, want := range []string{"", "a", "b", "c", "\x00"} {
		if at > 0 {
			wantRead(t, d.Crash(api.Fate{Keep: 1, Torn: none}), at, block(want))
		}
	}
	wantRead(t, d.Crash(api.Fate{Keep: 2, Torn: none}), 3, block("\x00"))
	wantRead(t, d.Crash(api.Fate{Keep: 2, Torn: none}), 4, block("d"))
}

// P4.3: what a crash leaves has no operations, has power, and nothing loose; the two know nothing of each other.
func TestCrashLeavesAnotherDisk(t *testing.T) {
	d := newDisk(t, 128)
	write(t, d, 1, block("a"))
	flush(t, d)
	write(t, d, 2, block("b"))
	write(t, d, 3, block("c"))
	d.CutAt(3)
	c := d.Crash(api.Fate{Keep: 1, Torn: none})
	wantCounts(t, d, 4, 2)
	wantOff(t, d)
	wantCounts(t, c, 0, 0)
	if c.Blocks() != 128 {
		t.Fatalf("%d blocks", c.Blocks())
	}
	write(t, c, 2, block("x"))
	wantCounts(t, c, 1, 1)
	wantRead(t, c.Crash(api.Fate{Torn: none}), 2, block("b"))
	write(t, c, 1, block("y"))
	flush(t, c)
	wantRead(t, d, 1, block("a"))
	wantRead(t, d, 2, block("b"))
	wantRead(t, d, 3, block("c"))
	wantRead(t, d.Crash(api.Fate{Torn: none}), 1, block("a"))
	d.CutAt(none)
	write(t, d, 1, block("z"))
	flush(t, d)
	wantRead(t, c, 1, block("y"))
	wantRead(t, c, 3, block("\x00"))
}

// model is a disk as a plain list of all that was done.
type model struct {
	flushed []string
	now     []string
	loose   []put
	ops     int
	cut     int
}

type put struct {
	at int
	s  string
}

func newModel(image []string) *model {
	return &model{flushed: slices.Clone(image), now: slices.Clone(image), cut: none}
}

func (m *model) off() bool {
	return m.cut >= 0 && m.ops >= m.cut
}

func (m *model) write(at int, s string) api.Errno {
	if m.off() {
		return api.ErrDiskOff
	}
	m.now[at] = s
	m.loose = append(m.loose, put{at, s})
	m.ops++
	return api.OK
}

func (m *model) flush() api.Errno {
	if m.off() {
		return api.ErrDiskOff
	}
	m.flushed = slices.Clone(m.now)
	m.loose = nil
	m.ops++
	return api.OK
}

func (m *model) crash(f api.Fate) *model {
	left := slices.Clone(m.flushed)
	for i, p := range m.loose {
		if i == f.Torn {
			left[p.at] = p.s[:256] + left[p.at][256:]
		} else if f.Keep&(1<<(i%64)) != 0 {
			left[p.at] = p.s
		}
	}
	return newModel(left)
}

// pair is a disk and its model.
type pair struct {
	t *testing.T
	d *disk.Disk
	m *model
}

func (p *pair) step(r *rand.Rand) {
	p.t.Helper()
	switch n := r.IntN(40); {
	case n == 0:
		f := api.Fate{Keep: r.Uint64(), Torn: r.IntN(len(p.m.loose)+3) - 1}
		p.d, p.m = p.d.Crash(f), p.m.crash(f)
	case n < 4:
		cut := p.m.ops + r.IntN(12) - 2
		p.d.CutAt(cut)
		p.m.cut = cut
	case n < 7:
		if got, want := p.d.Flush(), p.m.flush(); got != want {
			p.t.Fatalf("Flush: %d; want %d", got, want)
		}
	default:
		at, s := r.IntN(12), strings.Repeat(string(rune('a'+r.IntN(26))), 256)
		s += strings.Repeat(string(rune('a'+r.IntN(26))), 256)
		if got, want := p.d.Write(at, s), p.m.write(at, s); got != want {
			p.t.Fatalf("Write(%d): %d; want %d", at, got, want)
		}
	}
	wantCounts(p.t, p.d, p.m.ops, len(p.m.loose))
}

// P4.1 to P4.3: calls in no order, and crashes of crashes, against the plain list.
func TestCallsInNoOrder(t *testing.T) {
	for seed := range uint64(40) {
		r := rand.New(rand.NewPCG(seed, 4))
		p := &pair{t, newDisk(t, 128), newModel(slices.Repeat([]string{block("\x00")}, 128))}
		for range 300 {
			p.step(r)
			f := api.Fate{Keep: r.Uint64(), Torn: r.IntN(len(p.m.loose)+3) - 1}
			if !slices.Equal(p.d.Crash(f).Image(), p.m.crash(f).now) || !slices.Equal(p.d.Image(), p.m.now) {
				t.Fatalf("of the seed %d: not as the plain list has it", seed)
			}
		}
		wantImage(t, p.d, p.m.now)
	}
}

// P4.4: what was flushed stays, whatever crashes; with all bits of Keep, and nothing torn, nothing is lost.
func TestWhatStays(t *testing.T) {
	for seed := range uint64(20) {
		r := rand.New(rand.NewPCG(seed, 44))
		d := newDisk(t, 128)
		for range r.IntN(100) {
			write(t, d, r.IntN(64), block(string(rune('a'+r.IntN(26)))))
		}
		flush(t, d)
		flushed := d.Image()
		for range r.IntN(150) {
			write(t, d, 64+r.IntN(64), block(string(rune('a'+r.IntN(26)))))
		}
		c := d
		for range 10 {
			c = c.Crash(api.Fate{Keep: r.Uint64(), Torn: r.IntN(160)})
			if !slices.Equal(c.Image()[:64], flushed[:64]) {
				t.Fatal("what was flushed is lost")
			}
		}
		wantImage(t, d.Crash(api.Fate{Keep: math.MaxUint64, Torn: none}), d.Image())
		wantImage(t, d.Crash(api.Fate{Keep: 0, Torn: none}), flushed)
	}
}

// R4: what is told again is told as before.
func TestAskingChangesNothing(t *testing.T) {
	d := newDisk(t, 128)
	write(t, d, 3, block("a"))
	write(t, d, 4, block("b"))
	f := api.Fate{Keep: 1, Torn: 1}
	first, image := d.Crash(f).Image(), d.Image()
	for range 3 {
		wantImage(t, d.Crash(f), first)
		wantImage(t, d, image)
		wantCounts(t, d, 2, 2)
	}
}

func sharesMemory(a string, b string) bool {
	from, to := uintptr(unsafe.Pointer(unsafe.StringData(a))), uintptr(unsafe.Pointer(unsafe.StringData(b)))
	return from < to+uintptr(len(b)) && to < from+uintptr(len(a))
}

// anyShared tells whether two of the texts share memory: neighbours do, when they stand by their places there.
func anyShared(texts ...string) bool {
	slices.SortFunc(texts, func(a string, b string) int {
		return int(uintptr(unsafe.Pointer(unsafe.StringData(a)))) - int(uintptr(unsafe.Pointer(unsafe.StringData(b))))
	})
	for i := 1; i < len(texts); i++ {
		if sharesMemory(texts[i-1], texts[i]) {
			return true
		}
	}
	return false
}

// R3: what is handed in is neither kept nor answered; each answer is new memory.
func TestAnswersAreNewMemory(t *testing.T) {
	s := block("a")
	image := slices.Repeat([]string{s}, 128)
	d, _ := disk.Of(image)
	write(t, d, 3, s)
	one, _ := d.Read(3)
	two, _ := d.Read(3)
	crashed, _ := d.Crash(api.Fate{Keep: 1, Torn: none}).Read(3)
	texts := append([]string{s, one, two, crashed}, d.Image()...)
	texts = append(texts, d.Image()...)
	flush(t, d)
	texts = append(texts, d.Crash(api.Fate{}).Image()...)
	empty := newDisk(t, 128)
	texts = append(texts, empty.Image()...)
	texts = append(texts, empty.Image()...)
	if anyShared(texts...) {
		t.Error("two texts share memory")
	}
}

// R3: neither the list that is handed in nor the one that is answered is the disk's own.
func TestListsStandAlone(t *testing.T) {
	image := append(make([]string, 0, 200), someImage(128)...)
	spare := image[:200]
	spare[150] = "spare"
	d, _ := disk.Of(image)
	if spare[150] != "spare" || !slices.Equal(image, someImage(128)) {
		t.Error("the list that was handed in is written into")
	}
	clear(spare)
	wantImage(t, d, padded(someImage(128)))
	first := d.Image()
	clear(first[:cap(first)])
	wantImage(t, d, padded(someImage(128)))
	write(t, d, 0, block("x"))
	second := d.Image()
	write(t, d, 0, block("y"))
	if second[0] != block("x") {
		t.Error("a list that was answered changed")
	}
}

// R3: what was written stays as it was then, whatever becomes of the memory that it came from.
func TestWhatIsWrittenIsNotKept(t *testing.T) {
	memory := []byte(block("a"))
	s := unsafe.String(&memory[0], len(memory))
	image := slices.Repeat([]string{s}, 128)
	d, _ := disk.Of(image)
	write(t, d, 3, s)
	answer, _ := d.Read(5)
	for i := range memory {
		memory[i] = 'z'
	}
	for at := range 128 {
		wantRead(t, d, at, block("a"))
	}
	wantImage(t, d.Crash(api.Fate{Keep: 1, Torn: none}), slices.Repeat([]string{block("a")}, 128))
	if answer != block("a") {
		t.Error("what was answered changed")
	}
}
