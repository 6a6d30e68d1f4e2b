package mount_test

import (
	"math/rand/v2"
	"slices"
	"strconv"
	"sync/atomic"
	"testing"

	"nautilus/api"
	"nautilus/commit"
	"nautilus/disk"
	"nautilus/mount"
	"nautilus/plain"
	"nautilus/record"
	"nautilus/super"
	"nautilus/usage"
)

// P19.2: of disks of bytes by chance.
func TestAnyBytes(t *testing.T) {
	r := rand.New(rand.NewPCG(1, 2))
	for range 200 {
		image := make([]string, 128)
		for at := range image {
			b := make([]byte, 512)
			for i := range b {
				b[i] = byte(r.IntN(256) & r.IntN(256) & r.IntN(256))
			}
			mark := []string{"", "NAUT", "R", "P", "P\x00\x00\x00"}[r.IntN(5)]
			copy(b, mark)
			image[at] = string(b)
		}
		try(t, diskOf(t, image), r)
	}
}

// P19.2: of disks on which volumes lay, changed here and there.
func TestAnyDisk(t *testing.T) {
	var found, refused atomic.Int64
	t.Run("seeds", func(t *testing.T) {
		for seed := range uint64(12) {
			t.Run(strconv.Itoa(int(seed)), func(t *testing.T) {
				t.Parallel()
				c := newChance(t, seed+300, []int{128, 176, 256}[seed%3], []int{40, 700, 6000}[seed/3%3])
				images := c.images()
				for range 100 {
					x := spoiler{c.r, slices.Clone(images[len(images)-1]), images}
					for range 1 + c.r.IntN(3) {
						x.spoil()
					}
					if try(t, diskOf(t, x.image), c.r) {
						found.Add(1)
					} else {
						refused.Add(1)
					}
				}
			})
		}
	})
	if found.Load() < 200 || refused.Load() < 200 {
		t.Errorf("of %d something was found, of %d nothing", found.Load(), refused.Load())
	}
}

// images are those of a disk on which a volume lies, the last one at times of one that was cut within a call.
func (c *chance) images() [][]string {
	c.t.Helper()
	var images [][]string
	for i := range 60 {
		c.step()
		if i%20 == 9 {
			images = append(images, c.d.Image())
		}
	}
	if c.r.IntN(2) == 0 {
		c.d.CutAt(c.d.Ops() + c.r.IntN(12))
		c.step()
	}
	return append(images, c.d.Image())
}

// spoiler changes a disk's bytes.
type spoiler struct {
	r      *rand.Rand
	image  []string
	images [][]string // what the disk had, earlier, too
}

// at is a block, mostly one that is not bytes 0.
func (s *spoiler) at() int {
	for range 50 {
		if at := s.r.IntN(len(s.image)); s.image[at] != zeros(512) {
			return at
		}
	}
	return s.r.IntN(len(s.image))
}

func (s *spoiler) spoil() {
	at, r := s.at(), s.r
	b := []byte(s.image[at])
	i := r.IntN([]int{8, 60, 256, 512}[r.IntN(4)])
	switch r.IntN(12) {
	case 0:
		b[i] ^= 1 << r.IntN(8)
	case 1:
		b[i] = byte(r.IntN(256))
	case 2:
		b[i]++
	case 3:
		b[i]--
	case 4:
		copy(b[i:], []byte{byte(r.IntN(256)), byte(r.IntN(3)), 0, 0, 0, 0}[:2+r.IntN(5)])
	case 5:
		copy(b[i:], []byte{255, 255, 255, 255, 255, 255}[:1+r.IntN(6)])
	case 6:
		other := s.at()
		s.image[other], b = s.image[at], []byte(s.image[other])
	case 7:
		b = []byte(s.image[s.at()])
	case 8:
		b = []byte(s.images[r.IntN(len(s.images))][at])
	case 9:
		clear(b[:256*(1+r.IntN(2))])
	case 10:
		b = []byte(spoilRecord(r, s.image[at]))
	case 11:
		at = []int{api.SuperOne, api.SuperTwo}[r.IntN(2)]
		b = []byte(spoilSuper(r, s.image[at]))
	}
	s.image[at] = string(b)
}

// spoilRecord is another right record, if there was one.
func spoilRecord(r *rand.Rand, b string) string {
	x, err := record.Decode(b)
	if err != api.OK {
		return b
	}
	e := &x.L[r.IntN(len(x.L))]
	switch r.IntN(8) {
	case 0:
		x.Seq += r.Uint64N(5) - 2
	case 1:
		x.Cp += r.Uint64N(5) - 2
	case 2:
		x.Next = r.IntN(20)
	case 3:
		x.Sync = !x.Sync && !x.Ends
	case 4:
		e.Index += r.Uint32N(5) - 2
	case 5:
		e.File += r.Uint32N(5) - 2
	case 6:
		e.Vbn += r.Uint32N(5) - 2
	case 7:
		x.L = x.L[:1+r.IntN(len(x.L))]
	}
	if made, err := record.Encode(x); err == api.OK {
		return made
	}
	return b
}

// spoilSuper is another right super block, if there was one.
func spoilSuper(r *rand.Rand, b string) string {
	x, err := super.Decode(b)
	if err != api.OK {
		return b
	}
	switch r.IntN(4) {
	case 0:
		x.Seq = []uint64{x.Seq + 1, x.Seq + 2, x.Seq - 2, greatest, greatest - 1}[r.IntN(5)]
	case 1:
		x.At += r.IntN(31) - 15
	case 2:
		x.Cp = []uint64{x.Cp + 1, x.Cp - 1, greatest}[r.IntN(3)]
	case 3:
		x.Blocks += 16
	}
	if made, err := super.Encode(x); err == api.OK {
		return made
	}
	return b
}

// try mounts a disk, whatever is there. What is found is called; false, if nothing is.
func try(t *testing.T, d *disk.Disk, r *rand.Rand) bool {
	t.Helper()
	v, err := mount.Mount(d)
	if d.Ops() != 0 || (v == nil) != (err != api.OK) || err != api.OK && err != api.ErrMount {
		t.Fatalf("Mount: %d, with %d operations", err, d.Ops())
	}
	if v == nil {
		return false
	}
	m := toldOf(v)
	x := chance{t: t, d: d, v: v, m: m, r: r, now: 100, big: 900}
	for range 12 {
		one := x.next()
		x.m.wantOf(t, v, one)
		got := one.do(v)
		if m, want := x.m.do(one); got.err == api.OK {
			if got != want {
				t.Fatalf("%v: %v, want %v", one, got, want)
			}
			x.m = m
		}
	}
	x.m.wantOf(t, v, "end")
	again, err := mount.Mount(d)
	if err != api.OK {
		t.Fatalf("Mount again: %d", err)
	}
	x.m.found().wantOf(t, again, "found again")
	return true
}

// toldOf is what a volume tells of itself; of a checkpoint that can't be read there are no files.
func toldOf(v *commit.Volume) model {
	m := model{files: trimmed(v.Nodes()), laid: v.Nodes(), synced: isBusy(v)}
	for _, c := range v.Checks() {
		l, _ := v.View(c.Cp)
		m.kept = append(m.kept, point{c, l})
	}
	return m
}

// wantOf holds what a volume tells against the model: all that it tells is right, and stays as it was.
func (m model) wantOf(t *testing.T, v *commit.Volume, when any) {
	t.Helper()
	is := toldOf(v)
	is.laid = m.laid
	if !is.isSame(m) || !plain.Right(is.files) || !usage.Right(v.Usage()) {
		t.Fatalf("%v: it tells something else", when)
	}
	for _, p := range is.kept {
		if len(p.files) > 0 && !plain.Right(p.files) {
			t.Fatalf("%v: those of the checkpoint %d are no right files", when, p.c.Cp)
		}
	}
}
