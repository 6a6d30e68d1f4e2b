package commit_test

import (
	"slices"
	"testing"

	"nautilus/api"
	"nautilus/commit"
	"nautilus/disk"
	"nautilus/log"
	"nautilus/super"
)

// resumable is what a volume goes on from, of a disk on which all calls were done.
func resumable(t *testing.T, d *disk.Disk) commit.Found {
	t.Helper()
	f, ok := find(t, d)
	if !ok {
		t.Fatal("no volume")
	}
	s, _, err := super.Newest(f.block(api.SuperOne), f.block(api.SuperTwo), d.Blocks())
	f.must(err, "super")
	_, l, err := log.Scan(d, f.anchor, f.seq, 0)
	f.must(err, "scan")
	out := commit.Found{Super: s, Root: f.root, At: f.at, Dats: f.dats, Checks: f.checks, Log: l, Trail: map[int]struct{}{}}
	for _, one := range f.chain {
		for i := range len(one.R.L) + 1 {
			out.Trail[one.At+i] = struct{}{}
		}
	}
	if f.synced {
		out.Synced = func(files []api.Node) []api.Node {
			for ino := range files { // it is the volume's no more
				files[ino] = f.files[ino]
			}
			return files
		}
	}
	return out
}

// P18.6: a volume that was found is what it was, and goes on as it had gone on.
func TestResume(t *testing.T) {
	p := newPair(t, 256)
	p.create("/a", text(9000, 1))
	p.commit(2)
	for i := range 3 {
		p.write("/a", int64(i*700), text(3000, byte(i+2)))
		p.sync(3)
		v, err := commit.Resume(p.d, resumable(t, p.d))
		if err != api.OK {
			t.Fatalf("Resume: %d", err)
		}
		p.m.want(t, v, i)
		if !slices.Equal(v.Usage(), p.v.Usage()) {
			t.Fatalf("Usage %v, resumed %v", p.v.Usage(), v.Usage())
		}
		p.v = v
		p.do(call{what: "Mark", cp: 2, snap: true}) // it is busy
		p.write("/a", 0, text(2000, byte(i+20)))
		p.commit(uint64(i + 3))
		p.want(i)
		p.do(call{what: "Delete", cp: uint64(i + 1)})
		p.want(i)
		p.do(call{what: "Clean", seg: dirtyOne(p)})
		p.want(i)
	}
}

func TestResumeRefuses(t *testing.T) {
	p := newPair(t, 128)
	p.create("/a", "first")
	p.commit(2)
	p.write("/a", 0, "second")
	p.sync(3)
	for i, c := range []struct {
		change func(f *commit.Found)
		want   api.Errno
	}{
		{func(f *commit.Found) {}, api.OK},
		{func(f *commit.Found) { f.Log = nil }, api.ErrNil},
		{func(f *commit.Found) { f.Checks = nil }, api.ErrVol},
		{func(f *commit.Found) { f.Checks[1].Root = zeros(42) }, api.ErrVol},
		{func(f *commit.Found) { f.Dats = nil }, api.ErrVol},
		{func(f *commit.Found) { f.Synced = func([]api.Node) []api.Node { return nil } }, api.ErrVol},
		{func(f *commit.Found) { f.Synced = func(l []api.Node) []api.Node { return l[:3] } }, api.ErrVol},
		{func(f *commit.Found) {
			f.Synced = func(l []api.Node) []api.Node { l[3].Mode++; return l }
		}, api.ErrVol},
		{func(f *commit.Found) {
			f.Synced = func(l []api.Node) []api.Node { l[3].Time = 1 << 48; return l }
		}, api.ErrVol},
	} {
		f := resumable(t, p.d)
		c.change(&f)
		if v, err := commit.Resume(p.d, f); err != c.want || (v == nil) != (err != api.OK) {
			t.Errorf("Resume, %d: %d, want %d", i, err, c.want)
		}
		if v, err := commit.Resume(nil, f); v != nil || err != api.ErrNil {
			t.Errorf("Resume of no disk, %d: %d", i, err)
		}
	}
}

// TestResumeKeepsNothing: what is handed in may be changed then.
func TestResumeKeepsNothing(t *testing.T) {
	p := newPair(t, 128)
	p.create("/a", "first")
	p.commit(2)
	f := resumable(t, p.d)
	v, err := commit.Resume(p.d, f)
	if err != api.OK {
		t.Fatalf("Resume: %d", err)
	}
	clear(f.Dats)
	clear(f.Checks)
	clear(f.Trail)
	clear(f.Root.Dats)
	clear(f.Root.Cps)
	p.v = v
	p.want("resumed")
	p.commit(3)
	p.want("committed")
}
