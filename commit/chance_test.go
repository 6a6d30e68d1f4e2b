package commit_test

import (
	"math/rand/v2"
	"slices"
	"testing"

	"nautilus/api"
	"nautilus/plain"
	"nautilus/super"
	"nautilus/usage"
)

// chance makes calls by chance, and holds what they answer against the model.
type chance struct {
	*pair
	r     *rand.Rand
	now   uint64
	big   int     // bytes of a write, at most
	under []model // what calls that an error of the disk ended would have made, as long as nothing was written since
}

func newChance(t *testing.T, seed uint64, blocks int, big int) *chance {
	t.Helper()
	return &chance{pair: newPair(t, blocks), r: rand.New(rand.NewPCG(seed, uint64(blocks))), now: 1, big: big}
}

func (c *chance) path() string {
	paths := []string{"/a", "/b", "/c", "/d", "/d/a", "/d/b", "/d/e", "/d/e/f", "/l", "/d/l"}
	return paths[c.r.IntN(len(paths))]
}

// data is of bytes by chance, at times all 0.
func (c *chance) data() string {
	b := make([]byte, c.r.IntN(c.big+1))
	if c.r.IntN(6) > 0 {
		for i := range b {
			b[i] = byte(c.r.IntN(256))
		}
	}
	return string(b)
}

// written are files by a few calls that change but what is in them.
func (c *chance) written() []api.Node {
	l := c.m.files
	for range 1 + c.r.IntN(3) {
		f := api.Call{Op: api.OpWrite, Path: c.path(), Off: c.r.Int64N(int64(c.big) * 2), Data: c.data()}
		if c.r.IntN(4) == 0 {
			f = api.Call{Op: api.OpTrunc, Path: c.path(), N: c.r.Int64N(int64(c.big) * 3)}
		}
		l, _ = plain.Do(l, f, c.now)
	}
	return l
}

// changed are files by a few calls of any kind.
func (c *chance) changed() []api.Node {
	ops := []int{
		api.OpCreate, api.OpCreate, api.OpCreate, api.OpMkdir, api.OpMkdir, api.OpSymlink,
		api.OpUnlink, api.OpRmdir, api.OpRename, api.OpLink, api.OpChmod, api.OpTouch,
	}
	l := c.written()
	for range 1 + c.r.IntN(3) {
		f := api.Call{Op: ops[c.r.IntN(len(ops))], Path: c.path(), To: c.path(), Data: "a", Mode: c.r.IntN(4096), N: c.r.Int64N(1000)}
		l, _ = plain.Do(l, f, c.now)
	}
	return l
}

func (c *chance) next() call {
	c.now += c.r.Uint64N(3)
	switch n := c.r.IntN(40); {
	case n < 4:
		return call{what: "Set", l: c.changed()}
	case n < 14:
		return call{what: "Set", l: c.written()}
	case n < 20:
		return call{what: "Commit", now: c.now}
	case n < 28:
		return call{what: "Sync", ino: c.ino(), now: c.now}
	case n < 30:
		return call{what: "Mark", cp: c.cp(), snap: c.r.IntN(3) == 0}
	case n < 33:
		return call{what: "Delete", cp: c.cp()}
	case n < 34:
		return call{what: "Expire", now: c.now, keep: c.r.Uint64N(60)}
	}
	return call{what: "Clean", seg: c.segment()}
}

// ino is a file's number, at times none's.
func (c *chance) ino() uint32 {
	for ino, n := range c.m.files {
		if n.Kind == api.File && n != c.m.newestOf(ino) && c.r.IntN(2) == 0 {
			return uint32(ino)
		}
	}
	return uint32(c.r.IntN(12))
}

func (c *chance) cp() uint64 {
	if c.r.IntN(8) == 0 {
		return c.r.Uint64N(200)
	}
	return c.m.kept[c.r.IntN(len(c.m.kept))].c.Cp
}

func (c *chance) segment() int {
	l := c.v.Usage()
	if at, ok, _ := usage.Choose(l, api.Fewest, 0); ok && c.r.IntN(3) > 0 {
		return at
	}
	return c.r.IntN(len(l)+4) - 2
}

// step does a call. It may be refused for space, or as the power goes, or as there is nothing to clean.
func (c *chance) step() (call, answer) {
	c.t.Helper()
	one, l, ops := c.next(), c.v.Usage(), c.d.Ops()
	m, want := c.m.do(one)
	got := one.do(c.v)
	switch {
	case want.err == api.OK && got == (answer{err: api.ErrDiskOff}):
		c.under = append(c.under, m)
		return one, got
	case want.err == api.OK && got == (answer{err: api.ErrSpace}):
		return one, got
	case want.err == api.OK && one.what == "Clean" && (one.seg < 1 || one.seg >= len(l) || l[one.seg].State != api.Dirty):
		want.err = api.ErrArg
	}
	if got != want {
		c.t.Fatalf("%v: %v, want %v", one, got, want)
	}
	if got.err == api.OK {
		c.m = m
	}
	if c.d.Ops() > ops {
		c.under = nil
	}
	return one, got
}

// TestByChance: no call writes over what lives ahead of it; behind a Set that was done there is room for a checkpoint.
func TestByChance(t *testing.T) {
	refused := 0
	for seed := range uint64(4) {
		for _, blocks := range []int{128, 176, 512} {
			for _, big := range []int{30, 700, 9000} {
				c := newChance(t, seed, blocks, big)
				for i := range 120 {
					f, _ := find(t, c.d)
					was := c.d.Image()
					one, got := c.step()
					is := c.d.Image()
					for at := range f.needed() {
						if was[at] != is[at] {
							t.Fatalf("%v writes over the block %d", one, at)
						}
					}
					if one.what == "Set" && got.err == api.OK && i%2 == 0 {
						c.commit(c.now)
						if clean := usage.CleanOnes(c.v.Usage()); clean < api.Reserve {
							t.Fatalf("behind Set and Commit %d segments are clean", clean)
						}
					}
					if got.err == api.ErrSpace {
						refused++
					}
					if i%8 == 0 {
						c.want(i)
					}
				}
				c.want("end")
			}
		}
	}
	if refused < 20 {
		t.Errorf("%d calls were refused for space", refused)
	}
}

// TestTight: on a disk that is full most of the time segments can be cleaned nevertheless.
func TestTight(t *testing.T) {
	cleaned, full := 0, 0
	for seed := range uint64(8) {
		c := newChance(t, seed+100, 128, 5000)
		for range 250 {
			switch one, got := c.step(); {
			case one.what == "Clean" && got.err == api.OK:
				cleaned++
			case one.what == "Clean" && got.err == api.ErrSpace:
				t.Fatalf("seed %d: %v is refused: %v", seed, one, c.v.Usage())
			case got.err == api.ErrSpace:
				full++
			}
		}
		c.want(seed)
	}
	if cleaned < 50 || full < 50 {
		t.Errorf("%d segments were cleaned, %d calls refused", cleaned, full)
	}
}

// crash holds what crashes leave against the model: what calls that were answered left, and the one under way wholly, or not at all.
func (c *chance) crash(when any) {
	c.t.Helper()
	for i := range 5 {
		fate := api.Fate{Keep: []uint64{0, 1<<64 - 1, c.r.Uint64(), c.r.Uint64(), c.r.Uint64()}[i], Torn: c.r.IntN(c.d.Loose()+2) - 1}
		f, ok := find(c.t, c.d.Crash(fate))
		if !ok {
			c.t.Fatalf("%v: behind a crash, %+v, nothing is found", when, fate)
		}
		if told := f.told(); !told.isSame(c.m) && !slices.ContainsFunc(c.under, told.isSame) {
			c.t.Fatalf("%v: behind a crash, %+v, something else is found", when, fate)
		}
	}
}

// TestCutsByChance: whenever the power goes, and whatever a crash does then, all is there; and it comes back without a crash, and the volume goes on.
func TestCutsByChance(t *testing.T) {
	cut := 0
	for seed := range uint64(6) {
		for _, blocks := range []int{128, 256, 512} {
			for _, big := range []int{30, 700, 9000} {
				c := newChance(t, seed+100, blocks, big)
				for i := range 120 {
					if c.r.IntN(2) == 0 {
						c.d.CutAt(c.d.Ops() + c.r.IntN(30))
					}
					_, got := c.step()
					if got.err == api.ErrDiskOff {
						cut++
					}
					if len(c.under) > 0 || i%5 == 0 {
						c.crash(i)
					}
					c.d.CutAt(-1)
				}
				c.m.want(t, c.v, "end")
				if c.v.Commit(c.now) == api.OK {
					c.m, _ = c.m.commit(c.now)
					c.want("end")
				}
			}
		}
	}
	if cut < 100 {
		t.Errorf("the power went in %d calls", cut)
	}
}

// TestCutAtEachOperation: each call is cut at each of its operations, and done again when the power is back.
func TestCutAtEachOperation(t *testing.T) {
	for _, what := range []string{"Commit", "Sync", "Mark", "Delete", "Expire", "Clean"} {
		for cut := 0; ; cut++ {
			c := newChance(t, 1, 256, 700)
			c.create("/a", text(9000, 1))
			for i := range 4 {
				c.write("/a", int64(i*700), text(5000, byte(i)))
				c.commit(uint64(i))
			}
			c.write("/a", 600, text(9000, 77))
			one := call{what: what, ino: 3, cp: 2, now: 100, snap: true, seg: dirtyOne(c.pair)}
			c.d.CutAt(c.d.Ops() + cut)
			m, want := c.m.do(one)
			got := one.do(c.v)
			if got == want {
				if cut < 4 {
					t.Errorf("%s needs but %d operations", what, cut)
				}
				break
			}
			if got != (answer{err: api.ErrDiskOff}) {
				t.Fatalf("%v, cut at %d: %v", one, cut, got)
			}
			c.m.want(t, c.v, cut)
			c.under = []model{m}
			c.crash(cut)
			c.d.CutAt(-1)
			c.do(one)
			c.want(cut)
			c.write("/a", 5, "behind")
			c.do(call{what: "Sync", ino: 3, now: 4})
			c.want(cut)
		}
	}
}

// dirtyOne is a segment that may be cleaned.
func dirtyOne(p *pair) int {
	p.t.Helper()
	at, ok, err := usage.Choose(p.v.Usage(), api.Fewest, 0)
	if !ok || err != api.OK {
		p.t.Fatalf("no segment is to be cleaned: %d", err)
	}
	return at
}

// TestSuperBlocks: the newer one speaks of the newest checkpoint, and stands where its Seq says; the older one is of the checkpoint ahead.
func TestSuperBlocks(t *testing.T) {
	p := newPair(t, 256)
	for i := range 8 {
		one, _ := p.d.Read(api.SuperOne)
		two, _ := p.d.Read(api.SuperTwo)
		s, which, err := super.Newest(one, two, 256)
		if err != api.OK || s.Cp != p.m.newest().c.Cp || super.Place(s.Seq) != which*api.SuperTwo {
			t.Fatalf("the super block %+v, of %d, behind the checkpoint %d", s, which, p.m.newest().c.Cp)
		}
		p.create(name(i), text(100, byte(i)))
		p.commit(uint64(i))
	}
}
