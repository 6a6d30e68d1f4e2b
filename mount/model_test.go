package mount_test

import (
	"fmt"
	"slices"
	"testing"

	"nautilus/api"
	"nautilus/commit"
	"nautilus/disk"
	"nautilus/mount"
	"nautilus/plain"
)

const greatest = 1<<48 - 1 // the greatest time, and number

// model is a volume as plain values: what its files and checkpoints are, not where they lie.
type model struct {
	files  []api.Node // trimmed
	laid   []api.Node // the newest checkpoint's, with what was synced since
	synced bool
	kept   []point
}

type point struct {
	c     api.Check
	files []api.Node
}

func newModel(now uint64) model {
	l := plain.New()
	return model{files: l, laid: l, kept: []point{{api.Check{Cp: 1, Tick: now}, l}}}
}

// call is one of a volume.
type call struct {
	what string
	l    []api.Node
	ino  uint32
	cp   uint64
	now  uint64
	keep uint64
	snap bool
	seg  int
}

func (c call) String() string {
	return fmt.Sprintf("%s (%d places, ino %d, cp %d, now %d, keep %d, %t, segment %d)", c.what, len(c.l), c.ino, c.cp, c.now, c.keep, c.snap, c.seg)
}

// answer is what it answers.
type answer struct {
	count int
	err   api.Errno
}

func (c call) do(v *commit.Volume) answer {
	switch c.what {
	case "Set":
		return answer{0, v.Set(c.l)}
	case "Commit":
		return answer{0, v.Commit(c.now)}
	case "Sync":
		return answer{0, v.Sync(c.ino, c.now)}
	case "Mark":
		return answer{0, v.Mark(c.cp, c.snap)}
	case "Delete":
		return answer{0, v.Delete(c.cp)}
	case "Expire":
		count, err := v.Expire(c.now, c.keep)
		return answer{count, err}
	case "Clean":
		return answer{0, v.Clean(c.seg)}
	}
	panic(c.what)
}

// trimmed are files without those at the end that are none.
func trimmed(l []api.Node) []api.Node {
	for len(l) > 3 && l[len(l)-1] == (api.Node{}) {
		l = l[:len(l)-1]
	}
	return l
}

// isLike tells whether files differ but in what is in files.
func isLike(a []api.Node, b []api.Node) bool {
	return slices.EqualFunc(a, b, func(x api.Node, y api.Node) bool {
		if x.Kind != api.File || y.Kind != api.File {
			return x == y
		}
		return x.Mode == y.Mode && x.Links == y.Links
	})
}

// do is the model behind a call, and what that answers, but for errors of the disk, ErrSpace, and Clean's ErrArg.
func (m model) do(c call) (model, answer) {
	m.kept = slices.Clone(m.kept)
	switch c.what {
	case "Set":
		m.files = trimmed(c.l)
		return m, answer{}
	case "Commit":
		return m.commit(c.now)
	case "Sync":
		return m.sync(c.ino, c.now)
	}
	if m.synced {
		return m, answer{err: api.ErrBusy}
	}
	switch c.what {
	case "Expire":
		return m.expire(c.now, c.keep)
	case "Clean":
		return m, answer{}
	}
	i := slices.IndexFunc(m.kept, func(p point) bool { return p.c.Cp == c.cp })
	switch {
	case i < 0:
		return m, answer{err: api.ErrCpNone}
	case c.what == "Mark":
		m.kept[i].c.Snap = c.snap
	case i == len(m.kept)-1:
		return m, answer{err: api.ErrCpLast}
	case m.kept[i].c.Snap:
		return m, answer{err: api.ErrCpSnap}
	default:
		m.kept = slices.Delete(m.kept, i, i+1)
	}
	return m, answer{}
}

func (m model) newest() point {
	return m.kept[len(m.kept)-1]
}

func (m model) commit(now uint64) (model, answer) {
	if len(m.kept) == 108 {
		return m, answer{err: api.ErrCpsFull}
	}
	m.kept = append(m.kept, point{api.Check{Cp: m.newest().c.Cp + 1, Tick: now}, m.files})
	m.laid, m.synced = m.files, false
	return m, answer{}
}

func (m model) sync(ino uint32, now uint64) (model, answer) {
	if int(ino) >= len(m.files) || m.files[ino].Kind != api.File {
		return m, answer{err: api.ErrFirst}
	}
	if !isLike(m.files, m.newest().files) {
		return m.commit(now)
	}
	m.laid = slices.Clone(m.laid)
	m.laid[ino] = m.files[ino]
	m.synced = true
	return m, answer{}
}

func (m model) expire(now uint64, keep uint64) (model, answer) {
	var kept []point
	for i, p := range m.kept {
		if i == len(m.kept)-1 || p.c.Snap || p.c.Tick+keep >= now {
			kept = append(kept, p)
		}
	}
	count := len(m.kept) - len(kept)
	m.kept = kept
	return m, answer{count: count}
}

// found is the model of what is found of it on a disk: what was neither synced nor committed is gone.
func (m model) found() model {
	m.files = m.laid
	return m
}

func (m model) isSame(o model) bool {
	return m.synced == o.synced && slices.Equal(m.files, o.files) && slices.Equal(m.laid, o.laid) &&
		slices.EqualFunc(m.kept, o.kept, func(a point, b point) bool { return a.c == b.c && slices.Equal(a.files, b.files) })
}

// told is what a volume that was just found tells of itself.
func told(t *testing.T, v *commit.Volume) model {
	t.Helper()
	m := model{files: v.Nodes(), laid: v.Nodes()}
	for _, c := range v.Checks() {
		l, err := v.View(c.Cp)
		if err != api.OK {
			t.Fatalf("View(%d): %d", c.Cp, err)
		}
		m.kept = append(m.kept, point{c, l})
	}
	m.synced = isBusy(v)
	return m
}

// isBusy asks by a call that changes nothing, for there is no checkpoint 0.
func isBusy(v *commit.Volume) bool {
	return v.Mark(0, false) == api.ErrBusy
}

// mounted is what is found on a disk; Mount must neither write nor change what is loose.
func mounted(t *testing.T, d *disk.Disk) *commit.Volume {
	t.Helper()
	ops, loose := d.Ops(), d.Loose()
	v, err := mount.Mount(d)
	if v == nil || err != api.OK {
		t.Fatalf("Mount: %d", err)
	}
	if d.Ops() != ops || d.Loose() != loose {
		t.Fatalf("Mount does %d operations", d.Ops()-ops)
	}
	return v
}

func newDisk(t *testing.T, blocks int) *disk.Disk {
	t.Helper()
	d, err := disk.New(blocks)
	if err != api.OK {
		t.Fatalf("disk.New(%d): %d", blocks, err)
	}
	return d
}

func diskOf(t *testing.T, image []string) *disk.Disk {
	t.Helper()
	d, err := disk.Of(image)
	if err != api.OK {
		t.Fatalf("disk.Of: %d", err)
	}
	return d
}

func format(t *testing.T, d *disk.Disk, now uint64) *commit.Volume {
	t.Helper()
	v, err := commit.Format(d, now)
	if v == nil || err != api.OK {
		t.Fatalf("Format at %d: %d", now, err)
	}
	return v
}
