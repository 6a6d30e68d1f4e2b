package mount_test

import (
	"strconv"
	"testing"

	"nautilus/api"
	"nautilus/commit"
	"nautilus/disk"
	"nautilus/mount"
	"nautilus/usage"
)

// fates are those of a crash with so many loose writes: nothing stays, all does, each one alone, all but each one, each one torn, beside others that stay or do not.
func fates(loose int) []api.Fate {
	all := uint64(1<<64 - 1)
	out := []api.Fate{{Torn: -1}, {Keep: all, Torn: -1}}
	for i := range loose {
		bit := uint64(1) << i
		out = append(out,
			api.Fate{Keep: bit, Torn: -1}, api.Fate{Keep: all &^ bit, Torn: -1}, api.Fate{Keep: bit - 1, Torn: -1},
			api.Fate{Torn: i}, api.Fate{Keep: all, Torn: i}, api.Fate{Keep: bit - 1, Torn: i},
		)
	}
	return out
}

// P19.3: each call is cut at each of its operations, with each fate; what is found is what there was, or the call wholly done, and goes on.
func TestCutAtEachOperation(t *testing.T) {
	for _, one := range calls() {
		t.Run(one.what, func(t *testing.T) {
			t.Parallel()
			cuts := 0
			for ; ; cuts++ {
				c, isDone := cutShort(t, one, cuts)
				if isDone {
					break
				}
				for i, f := range fates(c.d.Loose()) {
					x := *c
					x.find(c.d.Crash(f), one)
					if i%3 == cuts%3 {
						x.goOn()
					}
				}
			}
			if cuts < 4 {
				t.Errorf("%v needs but %d operations", one, cuts)
			}
		})
	}
}

// cutShort is a prepared volume behind a call, at whose operation of that number the power goes; true, if it has not so many.
func cutShort(t *testing.T, one call, cut int) (*chance, bool) {
	t.Helper()
	c := prepared(t)
	c.d.CutAt(c.d.Ops() + cut)
	got := c.do(one)
	if got.err != api.OK && got.err != api.ErrDiskOff {
		t.Fatalf("%v, cut at %d: %v", one, cut, got)
	}
	return c, got.err == api.OK
}

// calls are those of a prepared volume that write.
func calls() []call {
	return []call{
		{what: "Commit", now: 100},
		{what: "Sync", ino: 3, now: 100},
		{what: "Sync", ino: 4, now: 100},
		{what: "Mark", cp: 2, snap: true},
		{what: "Delete", cp: 2},
		{what: "Expire", now: 100},
		{what: "Clean", seg: 2},
	}
}

// prepared is a volume of a few checkpoints, and with files that are neither synced nor committed.
func prepared(t *testing.T) *chance {
	t.Helper()
	c := newChance(t, 1, 256, 700)
	c.calls(api.Call{Op: api.OpCreate, Path: "/a"}, api.Call{Op: api.OpCreate, Path: "/b"}, api.Call{Op: api.OpWrite, Path: "/a", Data: text(9000, 1)})
	c.must(call{what: "Commit", now: 2})
	for i := range 3 {
		c.calls(api.Call{Op: api.OpWrite, Path: "/a", Off: int64(i * 700), Data: text(5000, byte(i+2))})
		c.must(call{what: "Commit", now: uint64(i + 3)})
	}
	c.calls(api.Call{Op: api.OpWrite, Path: "/a", Off: 600, Data: text(9000, 77)})
	return c
}

// goOn does calls of each kind on what was found, and finds all of them.
func (c *chance) goOn() {
	c.t.Helper()
	c.calls(api.Call{Op: api.OpWrite, Path: "/a", Off: 3, Data: "behind"})
	c.must(call{what: "Sync", ino: 3, now: 200})
	c.find(c.d, "synced")
	c.calls(api.Call{Op: api.OpWrite, Path: "/b", Data: text(1000, 5)}, api.Call{Op: api.OpCreate, Path: "/e"})
	c.must(call{what: "Commit", now: 201})
	c.find(c.d, "committed")
	if at, ok, _ := usage.Choose(c.v.Usage(), api.Fewest, 0); ok {
		c.must(call{what: "Clean", seg: at})
		c.find(c.d, "cleaned")
	}
	c.must(call{what: "Expire", now: 200})
	c.find(c.d, "expired")
}

// P19.3: behind a crash at each operation of a call the next one is cut at each of its own, too.
func TestFurtherCrashes(t *testing.T) {
	for _, one := range calls() {
		t.Run(one.what, func(t *testing.T) {
			t.Parallel()
			for cut := 0; ; cut++ {
				c, isDone := cutShort(t, one, cut)
				if isDone {
					return
				}
				for i, f := range []api.Fate{{Torn: -1}, {Keep: 1<<64 - 1, Torn: -1}} {
					x := *c
					x.find(c.d.Crash(f), one)
					next := []call{{what: "Commit", now: 150}, {what: "Sync", ino: 3, now: 150}, {what: "Delete", cp: 1}}[(cut+i)%3]
					x.cutAgain(next)
				}
			}
		})
	}
}

// cutAgain does a call on what was found, and cuts it at each of its operations.
func (c *chance) cutAgain(one call) {
	c.t.Helper()
	image := c.d.Image()
	for cut := 0; ; cut++ {
		x := *c
		x.find(diskOf(c.t, image), one)
		x.d.CutAt(cut)
		if x.do(one).err != api.ErrDiskOff {
			return
		}
		for _, f := range fates(x.d.Loose()) {
			y := x
			y.find(x.d.Crash(f), one)
		}
	}
}

// P19.3: whenever the power goes, whatever crashes, as often as it does.
func TestCrashesByChance(t *testing.T) {
	crashes, done := 0, 0
	for seed := range uint64(6) {
		for _, blocks := range []int{128, 176, 512} {
			for _, big := range []int{30, 700, 9000} {
				c := newChance(t, seed+50, blocks, big)
				for range 150 {
					if c.r.IntN(3) == 0 {
						c.d.CutAt(c.d.Ops() + c.r.IntN(1+c.r.IntN(40)))
					}
					one, got := c.step()
					if got.err == api.ErrDiskOff || c.r.IntN(10) == 0 {
						was := c.m.found()
						c.after(one)
						crashes++
						if !c.m.isSame(was) {
							done++
						}
					}
					c.d.CutAt(-1)
				}
				c.find(c.d, "end")
			}
		}
	}
	if crashes < 1000 || done < 50 {
		t.Errorf("%d crashes, and %d calls that were wholly done", crashes, done)
	}
}

// after goes on when the power went: mostly with what a crash leaves; or with what is found without one; or as if nothing had been.
func (c *chance) after(one call) {
	c.t.Helper()
	switch c.r.IntN(6) {
	case 0:
		for range 3 {
			x := *c
			x.find(c.d.Crash(c.fate()), one)
		}
	case 1:
		c.find(c.d, one)
	default:
		c.find(c.d.Crash(c.fate()), one)
	}
}

// TestOlderSuperBlock: a crash ahead of the super block leaves a root of which none speaks. Whatever is called then, what is found is not lost, however little room there is.
func TestOlderSuperBlock(t *testing.T) {
	for seed := range uint64(4) {
		t.Run(strconv.Itoa(int(seed)), func(t *testing.T) {
			t.Parallel()
			c := newChance(t, seed+700, 128, 5000)
			for range 120 {
				one := c.next()
				ops, ok := c.opsOf(one)
				if !ok {
					c.do(one)
					continue
				}
				c.d.CutAt(c.d.Ops() + ops - 1) // ahead of the last Flush
				c.must(call{what: "Set", l: c.m.files})
				if got := c.do(one); got.err != api.ErrDiskOff {
					t.Fatalf("%v: %v", one, got)
				}
				c.find(c.d.Crash(api.Fate{Torn: -1}), one)
				x := *c
				x.cutAgain(x.next())
			}
		})
	}
}

// opsOf is how many operations a call does on the disk as it is; false, if it is refused, or does none.
func (c *chance) opsOf(one call) (int, bool) {
	c.t.Helper()
	d := diskOf(c.t, c.d.Image())
	v := mounted(c.t, d)
	if v.Set(c.m.files) != api.OK {
		return 0, false
	}
	got := one.do(v)
	return d.Ops(), got.err == api.OK && d.Ops() > 0
}

// TestFormatCutShort: of a volume that is formatted again all is found, or nothing, or what Format makes.
func TestFormatCutShort(t *testing.T) {
	found := map[string]int{}
	for seed := range uint64(40) {
		c := newChance(t, seed, 128, 300)
		for range 10 + c.r.IntN(60) {
			c.step()
		}
		for cut := range 12 {
			d := diskOf(t, c.d.Image())
			d.CutAt(cut)
			if _, err := commit.Format(d, 5); err != api.ErrDiskOff {
				t.Fatalf("Format cut at %d: %d", cut, err)
			}
			for _, f := range fates(min(d.Loose(), 4)) {
				left := d.Crash(f)
				v, err := mount.Mount(left)
				if err == api.ErrMount {
					found["nothing"]++
					continue
				}
				if err != api.OK || !told(t, v).isSame(c.m.found()) {
					t.Fatalf("cut at %d: a part of what was there is found, %d", cut, err)
				}
				found["all"]++
			}
		}
		c.v, c.m, c.may = format(t, c.d, 5), newModel(5), nil
		c.find(c.d, "formatted")
	}
	if found["all"] < 100 || found["nothing"] < 100 {
		t.Errorf("found: %v", found)
	}
}

// TestFormatCutAtTheEnd: nothing of an older volume comes back.
func TestFormatCutAtTheEnd(t *testing.T) {
	c := prepared(t)
	image := c.d.Image()
	for back := range 12 {
		d := diskOf(t, image)
		format(t, d, 5)
		ops := d.Ops()
		d = diskOf(t, image)
		d.CutAt(ops - back - 1)
		if _, err := commit.Format(d, 5); err != api.ErrDiskOff {
			t.Fatalf("Format cut %d ahead of its end: %d", back, err)
		}
		for _, f := range fates(min(d.Loose(), 10)) {
			v, err := mount.Mount(d.Crash(f))
			if err != api.ErrMount && (err != api.OK || !told(t, v).isSame(newModel(5))) {
				t.Fatalf("cut %d ahead of its end: something else is found, %d", back, err)
			}
		}
	}
}

// TestLooseIsFound: where the power goes ahead of the last Flush, what is found without a crash may be loose still. The next call makes it stay, ahead of what it writes.
func TestLooseIsFound(t *testing.T) {
	loose := 0
	for _, one := range calls() {
		for cut := 0; ; cut++ {
			c, isDone := cutShort(t, one, cut)
			if isDone {
				break
			}
			c.m = c.m.found()
			for then, isDone := 0, false; !isDone; then++ {
				x := *c
				x.d = again(t, c.d)
				x.find(x.d, one)
				if !x.m.isSame(c.m) && x.d.Loose() > 0 && then > 0 {
					loose++
					x.may = nil // for the first operation is a Flush
				}
				x.d.CutAt(x.d.Ops() + then)
				isDone = x.do(call{what: "Commit", now: 150}).err == api.OK
				for _, f := range fates(min(x.d.Loose(), 3)) {
					y := x
					y.find(x.d.Crash(f), "the next one")
				}
			}
		}
	}
	if loose < 10 {
		t.Errorf("%d times something loose was found", loose)
	}
}

// again is a disk with the same bytes, and the same loose writes.
func again(t *testing.T, d *disk.Disk) *disk.Disk {
	t.Helper()
	safe := d.Crash(api.Fate{Torn: -1})
	image := d.Image()
	for at, b := range image {
		if was, _ := safe.Read(at); was != b {
			if err := safe.Write(at, b); err != api.OK {
				t.Fatalf("Write: %d", err)
			}
		}
	}
	return safe
}
