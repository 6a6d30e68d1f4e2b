package commit_test

import (
	"fmt"
	"slices"
	"testing"

	"nautilus/api"
	"nautilus/commit"
	"nautilus/plain"
)

// model is a volume as plain values: what its files and checkpoints are, not where they lie.
type model struct {
	files  []api.Node
	laid   []api.Node // the newest checkpoint's, with what was synced since
	synced bool
	kept   []point
}

type point struct {
	c     api.Check
	files []api.Node
}

func newModel(now uint64) model {
	l := plain.New()
	return model{files: l, laid: l, kept: []point{{api.Check{Cp: 1, Tick: now}, l}}}
}

// call is one of a volume.
type call struct {
	what string
	l    []api.Node
	ino  uint32
	cp   uint64
	now  uint64
	keep uint64
	snap bool
	seg  int
}

func (c call) String() string {
	return fmt.Sprintf("%s (%d places, ino %d, cp %d, now %d, keep %d, %t, segment %d)", c.what, len(c.l), c.ino, c.cp, c.now, c.keep, c.snap, c.seg)
}

// answer is what it answers.
type answer struct {
	count int
	err   api.Errno
}

func (c call) do(v *commit.Volume) answer {
	switch c.what {
	case "Set":
		return answer{0, v.Set(c.l)}
	case "Commit":
		return answer{0, v.Commit(c.now)}
	case "Sync":
		return answer{0, v.Sync(c.ino, c.now)}
	case "Mark":
		return answer{0, v.Mark(c.cp, c.snap)}
	case "Delete":
		return answer{0, v.Delete(c.cp)}
	case "Expire":
		count, err := v.Expire(c.now, c.keep)
		return answer{count, err}
	case "Clean":
		return answer{0, v.Clean(c.seg)}
	}
	panic(c.what)
}

// trimmed are files without those at the end that are none.
func trimmed(l []api.Node) []api.Node {
	for len(l) > 3 && l[len(l)-1] == (api.Node{}) {
		l = l[:len(l)-1]
	}
	return l
}

// isLike tells whether files differ but in what is in files.
func isLike(a []api.Node, b []api.Node) bool {
	if len(a) != len(b) {
		return false
	}
	for i := range a {
		x, y := a[i], b[i]
		if x.Kind != api.File || y.Kind != api.File {
			if x != y {
				return false
			}
			continue
		}
		if x.Mode != y.Mode || x.Links != y.Links {
			return false
		}
	}
	return true
}

// do is the model behind a call, and what that answers, but for errors of the disk, ErrSpace, and Clean's ErrArg.
func (m model) do(c call) (model, answer) {
	m.kept = slices.Clone(m.kept)
	switch c.what {
	case "Set":
		if !plain.Right(c.l) {
			return m, answer{err: api.ErrTree}
		}
		m.files = c.l
	case "Commit":
		return m.commit(c.now)
	case "Sync":
		if int(c.ino) >= len(m.files) || m.files[c.ino].Kind != api.File {
			return m, answer{err: api.ErrFirst}
		}
		if !isLike(trimmed(m.files), m.newest().files) {
			return m.commit(c.now)
		}
		m.laid = slices.Clone(m.laid)
		m.laid[c.ino] = m.files[c.ino]
		m.synced = true
	case "Clean":
		if m.synced {
			return m, answer{err: api.ErrBusy}
		}
	case "Expire":
		return m.expire(c.now, c.keep)
	default:
		return m.change(c)
	}
	return m, answer{}
}

func (m model) newest() point {
	return m.kept[len(m.kept)-1]
}

// newestOf is what the newest checkpoint has there.
func (m model) newestOf(ino int) api.Node {
	if l := m.newest().files; ino < len(l) {
		return l[ino]
	}
	return api.Node{}
}

func (m model) commit(now uint64) (model, answer) {
	if now >= 1<<48 {
		return m, answer{err: api.ErrArg}
	}
	if len(m.kept) == 108 {
		return m, answer{err: api.ErrCpsFull}
	}
	l := trimmed(m.files)
	m.kept = append(m.kept, point{api.Check{Cp: m.newest().c.Cp + 1, Tick: now}, l})
	m.laid, m.synced = l, false
	return m, answer{}
}

// change marks or deletes.
func (m model) change(c call) (model, answer) {
	if m.synced {
		return m, answer{err: api.ErrBusy}
	}
	i := slices.IndexFunc(m.kept, func(p point) bool { return p.c.Cp == c.cp })
	switch {
	case i < 0:
		return m, answer{err: api.ErrCpNone}
	case c.what == "Mark":
		m.kept[i].c.Snap = c.snap
		return m, answer{}
	case i == len(m.kept)-1:
		return m, answer{err: api.ErrCpLast}
	case m.kept[i].c.Snap:
		return m, answer{err: api.ErrCpSnap}
	}
	m.kept = slices.Delete(m.kept, i, i+1)
	return m, answer{}
}

func (m model) expire(now uint64, keep uint64) (model, answer) {
	if m.synced {
		return m, answer{err: api.ErrBusy}
	}
	var kept []point
	for i, p := range m.kept {
		if i == len(m.kept)-1 || p.c.Snap || p.c.Tick+keep < p.c.Tick || p.c.Tick+keep >= now {
			kept = append(kept, p)
		}
	}
	count := len(m.kept) - len(kept)
	m.kept = kept
	return m, answer{count: count}
}

func (m model) checks() []api.Check {
	var out []api.Check
	for _, p := range m.kept {
		out = append(out, p.c)
	}
	return out
}

// isSame tells whether checkpoints, and what is laid down, are the same.
func (m model) isSame(o model) bool {
	if m.synced != o.synced || !slices.Equal(m.laid, o.laid) || !slices.Equal(m.checks(), o.checks()) {
		return false
	}
	return slices.EqualFunc(m.kept, o.kept, func(a point, b point) bool { return slices.Equal(a.files, b.files) })
}

// want holds all that a volume tells of files and checkpoints against the model.
func (m model) want(t *testing.T, v *commit.Volume, when any) {
	t.Helper()
	if l := v.Nodes(); !slices.Equal(l, m.files) {
		t.Fatalf("%v: Nodes are others", when)
	}
	if l := v.Checks(); !slices.Equal(l, m.checks()) {
		t.Fatalf("%v: Checks %v, want %v", when, l, m.checks())
	}
	for _, p := range m.kept {
		m.wantView(t, v, p, when)
	}
	newest := m.newest().c.Cp
	for _, cp := range []uint64{0, newest + 1, 1<<64 - 1} {
		if l, err := v.View(cp); len(l) != 0 || err != api.ErrCpNone {
			t.Fatalf("%v: View(%d): %d files, %d", when, cp, len(l), err)
		}
	}
}

func (m model) wantView(t *testing.T, v *commit.Volume, p point, when any) {
	t.Helper()
	l, err := v.View(p.c.Cp)
	if err != api.OK || !slices.Equal(l, p.files) {
		t.Fatalf("%v: View(%d): %d, or other files than then", when, p.c.Cp, err)
	}
}
