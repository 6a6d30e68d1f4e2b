package mount_test

import (
	"slices"
	"strings"
	"testing"

	"nautilus/api"
	"nautilus/commit"
	"nautilus/disk"
	"nautilus/mount"
	"nautilus/plain"
)

func TestExamples(t *testing.T) {
	d := newDisk(t, 128)
	if v, err := mount.Mount(d); v != nil || err != api.ErrMount {
		t.Errorf("Mount of a disk of bytes 0: %v, %d", v, err)
	}
	format(t, d, 5)
	v := mounted(t, d)
	if l := v.Nodes(); !slices.Equal(l, plain.New()) {
		t.Errorf("Nodes behind Format: %v", l)
	}
	if l := v.Checks(); !slices.Equal(l, []api.Check{{Cp: 1, Tick: 5}}) {
		t.Errorf("Checks behind Format: %v", l)
	}
}

// P19.1: of no disk ErrNil is the answer.
func TestNoDisk(t *testing.T) {
	wrong, _ := disk.New(100)
	for _, d := range []*disk.Disk{nil, wrong, {}} {
		if v, err := mount.Mount(d); v != nil || err != api.ErrNil {
			t.Errorf("Mount of no disk: %v, %d", v, err)
		}
	}
}

// P19.1: disks of each size, whatever is written there that is no volume.
func TestNoVolume(t *testing.T) {
	for _, blocks := range []int{128, 144, 2048, 4096} {
		for _, fill := range []string{"", "\x00", "\xff", "NAUT", "R", "P", "P\x00\x00\x00"} {
			image := make([]string, blocks)
			for at := range image {
				image[at] = (strings.Repeat(fill, 512) + zeros(512))[:512]
			}
			if v, err := mount.Mount(diskOf(t, image)); v != nil || err != api.ErrMount {
				t.Errorf("Mount of %d blocks of %q: %v, %d", blocks, fill, v, err)
			}
		}
	}
}

func zeros(count int) string {
	return strings.Repeat("\x00", count)
}

// text is one of so many bytes, none 0; those of two marks differ in each content.
func text(count int, mark byte) string {
	b := make([]byte, count)
	for i := range b {
		b[i] = 1 + (byte(i/508)*5+byte(i)+mark*3)%255
	}
	return string(b)
}

// TestEachSize: a volume on a disk of each size, of files of all kinds and sizes.
func TestEachSize(t *testing.T) {
	for _, blocks := range []int{128, 144, 512, 4096} {
		c := newChance(t, 1, blocks, 10)
		c.calls(
			api.Call{Op: api.OpMkdir, Path: "/d", Mode: 493},
			api.Call{Op: api.OpSymlink, Path: "/d/l", Data: "../f"},
			api.Call{Op: api.OpCreate, Path: "/f", Mode: 420},
			api.Call{Op: api.OpLink, Path: "/f", To: "/d/g"},
		)
		for i, size := range []int{0, 1, 508, 509, 3048, 3049, 10000, 64516, 64517, 129032, 129033, 200000} {
			if size > blocks*20 {
				break
			}
			for _, data := range []string{zeros(size), zeros(size/2) + text(size-size/2, byte(i)), text(size, byte(i)+1)} {
				c.calls(
					api.Call{Op: api.OpTrunc, Path: "/f", N: int64(size)},
					api.Call{Op: api.OpWrite, Path: "/f", Data: data},
				)
				c.must(call{what: []string{"Commit", "Sync"}[i%2], ino: 5, now: uint64(i)})
				c.find(c.d, size)
				c.must(call{what: "Commit", now: uint64(i)})
				c.must(call{what: "Expire", now: greatest})
				c.find(c.d, size)
			}
		}
	}
}

// must does a call, which must be done.
func (c *chance) must(one call) {
	c.t.Helper()
	if got := c.do(one); got.err != api.OK {
		c.t.Fatalf("%v: %v", one, got)
	}
}

// calls does calls of files, one behind the other.
func (c *chance) calls(calls ...api.Call) {
	c.t.Helper()
	for _, f := range calls {
		l, r := plain.Do(c.m.files, f, 7)
		if r.Code != api.OK {
			c.t.Fatalf("%+v: %d", f, r.Code)
		}
		c.must(call{what: "Set", l: l})
	}
}

// TestManyFiles: as many as there may be, and gaps among them.
func TestManyFiles(t *testing.T) {
	c := newChance(t, 1, 1024, 10)
	l := c.m.files
	for i := range 237 {
		l, _ = plain.Do(l, api.Call{Op: api.OpCreate, Path: "/f" + string(rune('A'+i))}, 1)
	}
	c.must(call{what: "Set", l: l})
	c.must(call{what: "Commit", now: 2})
	c.find(c.d, "many")
	for i := range 237 {
		if i >= 40 && i < 200 {
			l, _ = plain.Do(l, api.Call{Op: api.OpUnlink, Path: "/f" + string(rune('A'+i))}, 1)
		}
	}
	c.must(call{what: "Set", l: l})
	c.must(call{what: "Commit", now: 3})
	c.find(c.d, "a gap")
	if len(c.m.files) != 240 {
		t.Errorf("%d files are found", len(c.m.files))
	}
}

// TestManyCheckpoints: as many as there may be.
func TestManyCheckpoints(t *testing.T) {
	c := newChance(t, 1, 4096, 10)
	c.calls(api.Call{Op: api.OpCreate, Path: "/a"})
	for i := range 107 {
		c.must(call{what: "Commit", now: uint64(i)})
		if i%9 == 0 || i > 100 {
			c.must(call{what: "Mark", cp: uint64(i + 1), snap: i%2 == 0})
			c.find(c.d, i)
		}
	}
	if got := c.do(call{what: "Commit", now: 9}); got.err != api.ErrCpsFull {
		t.Errorf("Commit beside 108: %v", got)
	}
	c.must(call{what: "Expire", now: greatest})
	c.find(c.d, "expired")
}

// P19.1: what is found is told whether the power is there or not, again and again; it stays gone, and calls that write are refused, up to the next CutAt.
func TestMountWithoutPower(t *testing.T) {
	c := newChance(t, 1, 128, 10)
	c.calls(api.Call{Op: api.OpCreate, Path: "/a"})
	c.must(call{what: "Commit", now: 2})
	c.d.CutAt(0)
	for range 3 {
		c.find(c.d, "without power")
		if got := c.do(call{what: "Commit", now: 3}); got.err != api.ErrDiskOff {
			t.Errorf("Commit without power: %v", got)
		}
	}
	c.d.CutAt(-1)
	c.must(call{what: "Commit", now: 3})
	c.find(c.d, "with power")
}

// P19.3: what is neither synced nor committed is not found; all else is, and goes on as if nothing had been: each call answers the same, and writes the same, on the disk of what was found. Usage is the same.
func TestWithoutCrash(t *testing.T) {
	for seed := range uint64(4) {
		for _, blocks := range []int{128, 256, 512} {
			for _, big := range []int{30, 700, 9000} {
				beside := besides{newChance(t, seed, blocks, big), nil, nil}
				for i := range 150 {
					if i%4 == 0 || beside.d == nil {
						beside.begin()
					}
					beside.step(i)
				}
			}
		}
	}
}

// besides does the calls of a chance on what was found of its volume, too.
type besides struct {
	*chance
	d *disk.Disk
	v *commit.Volume
}

// begin finds what is on a copy of the disk.
func (b *besides) begin() {
	b.t.Helper()
	b.d = diskOf(b.t, b.chance.d.Image())
	b.v = mounted(b.t, b.d)
	if !told(b.t, b.v).isSame(b.m.found()) {
		b.t.Fatal("something else is found")
	}
	if !slices.Equal(b.v.Usage(), b.chance.v.Usage()) {
		b.t.Fatalf("Usage %v, of what was found %v", b.chance.v.Usage(), b.v.Usage())
	}
	if l := b.m.files; !slices.Equal(l, b.m.laid) && b.v.Set(l) != api.OK {
		b.d = nil // there is no room for it any more
	}
}

func (b *besides) step(when any) {
	b.t.Helper()
	one, got := b.chance.step()
	if b.d == nil {
		return
	}
	if found := one.do(b.v); found != got {
		b.t.Fatalf("%v: %v: %v, of what was found %v", when, one, got, found)
	}
	if !slices.Equal(b.d.Image(), b.chance.d.Image()) {
		b.t.Fatalf("%v: %v writes something else on what was found", when, one)
	}
}

// TestFoundTwice: what was found twice of one disk tells the same, and shares no memory.
func TestFoundTwice(t *testing.T) {
	c := newChance(t, 1, 256, 10)
	c.calls(api.Call{Op: api.OpCreate, Path: "/a"}, api.Call{Op: api.OpWrite, Path: "/a", Data: text(5000, 1)})
	c.must(call{what: "Commit", now: 2})
	c.calls(api.Call{Op: api.OpWrite, Path: "/a", Data: "new"})
	c.must(call{what: "Sync", ino: 3})
	one, two := mounted(t, c.d), mounted(t, c.d)
	want := told(t, one)
	for range 2 {
		clear(one.Nodes())
		clear(one.Checks())
		l, _ := one.View(2)
		clear(l)
		if !told(t, one).isSame(want) || !told(t, two).isSame(want) {
			t.Fatal("they tell something else")
		}
	}
	if err := one.Set(plain.New()); err != api.OK || !told(t, two).isSame(want) {
		t.Errorf("Set of one: %d, or the other one is changed", err)
	}
}
