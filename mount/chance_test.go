package mount_test

import (
	"math/rand/v2"
	"slices"
	"testing"

	"nautilus/api"
	"nautilus/commit"
	"nautilus/disk"
	"nautilus/plain"
	"nautilus/usage"
)

// chance makes calls by chance, and holds what they answer against the model.
type chance struct {
	t   *testing.T
	d   *disk.Disk
	v   *commit.Volume
	m   model
	may []model // what a crash may leave beside the model: calls that were cut, wholly done, or not at all
	r   *rand.Rand
	now uint64
	big int // bytes of a write, at most
}

func newChance(t *testing.T, seed uint64, blocks int, big int) *chance {
	t.Helper()
	d := newDisk(t, blocks)
	return &chance{t: t, d: d, v: format(t, d, 1), m: newModel(1), r: rand.New(rand.NewPCG(seed, uint64(blocks))), now: 1, big: big}
}

func (c *chance) path() string {
	paths := []string{"/a", "/b", "/c", "/d", "/d/a", "/d/b", "/d/e", "/d/e/f", "/l", "/d/l"}
	return paths[c.r.IntN(len(paths))]
}

// data is of bytes by chance, at times all 0.
func (c *chance) data() string {
	b := make([]byte, c.r.IntN(c.big+1))
	if c.r.IntN(6) > 0 {
		for i := range b {
			b[i] = byte(c.r.IntN(256))
		}
	}
	return string(b)
}

// written are files by a few calls that change but what is in them.
func (c *chance) written() []api.Node {
	l := c.m.files
	for range 1 + c.r.IntN(3) {
		f := api.Call{Op: api.OpWrite, Path: c.path(), Off: c.r.Int64N(int64(c.big) * 2), Data: c.data()}
		if c.r.IntN(4) == 0 {
			f = api.Call{Op: api.OpTrunc, Path: c.path(), N: c.r.Int64N(int64(c.big) * 3)}
		}
		l, _ = plain.Do(l, f, c.now)
	}
	return l
}

// changed are files by a few calls of any kind.
func (c *chance) changed() []api.Node {
	ops := []int{
		api.OpCreate, api.OpCreate, api.OpCreate, api.OpMkdir, api.OpMkdir, api.OpSymlink,
		api.OpUnlink, api.OpRmdir, api.OpRename, api.OpLink, api.OpChmod, api.OpTouch,
	}
	l := c.written()
	for range 1 + c.r.IntN(3) {
		f := api.Call{Op: ops[c.r.IntN(len(ops))], Path: c.path(), To: c.path(), Data: "a", Mode: c.r.IntN(4096), N: c.r.Int64N(1000)}
		l, _ = plain.Do(l, f, c.now)
	}
	return l
}

func (c *chance) next() call {
	c.now += c.r.Uint64N(3)
	switch n := c.r.IntN(40); {
	case n < 5:
		return call{what: "Set", l: c.changed()}
	case n < 14:
		return call{what: "Set", l: c.written()}
	case n < 20:
		return call{what: "Commit", now: c.now}
	case n < 28:
		return call{what: "Sync", ino: c.ino(), now: c.now}
	case n < 30:
		return call{what: "Mark", cp: c.cp(), snap: c.r.IntN(3) == 0}
	case n < 33:
		return call{what: "Delete", cp: c.cp()}
	case n < 34:
		return call{what: "Expire", now: c.now, keep: c.r.Uint64N(60)}
	}
	return call{what: "Clean", seg: c.segment()}
}

// ino is a file's number, at times none's.
func (c *chance) ino() uint32 {
	for ino, n := range c.m.files {
		if n.Kind == api.File && c.r.IntN(2) == 0 {
			return uint32(ino)
		}
	}
	return uint32(c.r.IntN(12))
}

func (c *chance) cp() uint64 {
	if c.r.IntN(8) == 0 {
		return c.r.Uint64N(200)
	}
	return c.m.kept[c.r.IntN(len(c.m.kept))].c.Cp
}

func (c *chance) segment() int {
	l := c.v.Usage()
	if at, ok, _ := usage.Choose(l, api.Fewest, 0); ok && c.r.IntN(3) > 0 {
		return at
	}
	return c.r.IntN(len(l)+4) - 2
}

// step does a call. It may be refused for space, or as the power goes, or as there is nothing to clean.
func (c *chance) step() (call, answer) {
	c.t.Helper()
	one := c.next()
	return one, c.do(one)
}

func (c *chance) do(one call) answer {
	c.t.Helper()
	l, ops := c.v.Usage(), c.d.Ops()
	m, want := c.m.do(one)
	got := one.do(c.v)
	switch {
	case want.err == api.OK && got == (answer{err: api.ErrDiskOff}):
		c.may = append(c.may, m.found())
		return got
	case want.err == api.OK && got == (answer{err: api.ErrSpace}):
		return got
	case want.err == api.OK && one.what == "Clean" && (one.seg < 1 || one.seg >= len(l) || l[one.seg].State != api.Dirty):
		want.err = api.ErrArg
	}
	if got != want {
		c.t.Fatalf("%v: %v, want %v", one, got, want)
	}
	if got.err == api.OK {
		c.m = m
	}
	if c.d.Ops() > ops {
		c.may = nil
	}
	return got
}

// is tells whether what was found may be.
func (c *chance) is(m model) bool {
	return m.isSame(c.m.found()) || slices.ContainsFunc(c.may, m.isSame)
}

// fate is one by chance: often nothing, or all, stays.
func (c *chance) fate() api.Fate {
	keep := []uint64{0, 1<<64 - 1, c.r.Uint64(), c.r.Uint64()}[c.r.IntN(4)]
	return api.Fate{Keep: keep, Torn: c.r.IntN(c.d.Loose()+2) - 1}
}

// find goes on with what is found on a disk, which is this one's, or one that a crash of it left.
func (c *chance) find(d *disk.Disk, when any) {
	c.t.Helper()
	v := mounted(c.t, d)
	m := told(c.t, v)
	if !c.is(m) {
		c.t.Fatalf("%v: something else is found", when)
	}
	if d == c.d && d.Loose() > 0 {
		c.may = append(c.may, c.m.found()) // what was found may be lost by another crash, for Mount writes nothing
	} else {
		c.may = nil
	}
	c.d, c.v, c.m = d, v, m
}
