package mount_test

import (
	"slices"
	"testing"

	"nautilus/api"
	"nautilus/cps"
	"nautilus/dat"
	"nautilus/disk"
	"nautilus/inode"
	"nautilus/log"
	"nautilus/mount"
	"nautilus/record"
	"nautilus/root"
	"nautilus/super"
)

// lying is a small volume on a disk, whose parts can be changed: of two checkpoints, of the files /a (3) and /b (4), of which a was synced twice since.
type lying struct {
	t      *testing.T
	image  []string
	at     int // the super block that counts
	super  api.Super
	chain  []api.Found // from the newest root's record on
	root   api.Root
	dats   []api.Trans
	checks []api.Check
}

func newLying(t *testing.T) *lying {
	t.Helper()
	c := newChance(t, 1, 128, 10)
	c.calls(api.Call{Op: api.OpCreate, Path: "/a"}, api.Call{Op: api.OpCreate, Path: "/b"}, api.Call{Op: api.OpWrite, Path: "/a", Data: text(1300, 1)}, api.Call{Op: api.OpWrite, Path: "/b", Data: "beside"})
	c.must(call{what: "Commit", now: 2})
	for i := range 2 {
		c.calls(api.Call{Op: api.OpWrite, Path: "/a", Off: int64(i * 508), Data: text(700, byte(i+2))})
		c.must(call{what: "Sync", ino: 3, now: 3})
	}
	l := &lying{t: t, image: c.d.Image()}
	l.read(c.d)
	if _, err := mount.Mount(diskOf(t, l.image)); err != api.OK {
		t.Fatalf("Mount: %d", err)
	}
	return l
}

func (l *lying) read(d *disk.Disk) {
	l.t.Helper()
	s, which, err := super.Newest(l.image[api.SuperOne], l.image[api.SuperTwo], len(l.image))
	l.must(err)
	l.super, l.at = s, []int{api.SuperOne, api.SuperTwo}[which]
	at := s.At - 1
	for l.image[at][0] != 'R' {
		at--
	}
	r, err := record.Decode(l.image[at])
	l.must(err)
	l.chain, _, err = log.Scan(d, at, r.Seq, 0)
	l.must(err)
	l.root, err = root.Decode(l.content(s.At))
	l.must(err)
	l.dats, err = dat.Decode([]string{l.content(int(l.root.Dats[0]))})
	l.must(err)
	l.checks, err = cps.Decode([]string{l.content(int(l.root.Cps[0]))})
	l.must(err)
	if len(l.chain) != 3 || len(l.root.Dats) != 1 || len(l.root.Cps) != 1 || len(l.checks) != 2 {
		l.t.Fatalf("it lies otherwise: %+v, %d records", l.root, len(l.chain))
	}
}

func (l *lying) must(err api.Errno) {
	l.t.Helper()
	if err != api.OK {
		l.t.Fatalf("error %d", err)
	}
}

func (l *lying) content(at int) string {
	l.t.Helper()
	content, err := record.Unwrap(l.image[at])
	l.must(err)
	return content
}

func (l *lying) wrap(at int, content string) {
	l.t.Helper()
	b, err := record.Wrap(content)
	l.must(err)
	l.image[at] = b
}

func (l *lying) putSuper(change func(s *api.Super)) {
	l.t.Helper()
	change(&l.super)
	b, err := super.Encode(l.super)
	l.must(err)
	l.image[l.at] = b
}

func (l *lying) putRecord(i int, change func(r *api.Record)) {
	l.t.Helper()
	change(&l.chain[i].R)
	b, err := record.Encode(l.chain[i].R)
	l.must(err)
	l.image[l.chain[i].At] = b
}

func (l *lying) putRoot(change func(r *api.Root)) {
	l.t.Helper()
	change(&l.root)
	content, err := root.Encode(l.root)
	l.must(err)
	l.wrap(l.super.At, content)
}

func (l *lying) putDats(change func()) {
	l.t.Helper()
	change()
	contents, err := dat.Encode(l.dats)
	l.must(err)
	l.wrap(int(l.root.Dats[0]), contents[0])
}

func (l *lying) putChecks(change func()) {
	l.t.Helper()
	change()
	contents, err := cps.Encode(l.checks)
	l.must(err)
	l.wrap(int(l.root.Cps[0]), contents[0])
}

// ifile is the inode of the newest checkpoint's file of inodes.
func (l *lying) ifile() api.Inode {
	l.t.Helper()
	n, err := inode.Decode(l.checks[1].Root)
	l.must(err)
	return n
}

// putInode changes a file's inode.
func (l *lying) putInode(ino int, change func(n *api.Inode)) {
	l.t.Helper()
	at := int(l.dats[l.ifile().Map[0]].Phys)
	n, err := inode.Get(l.content(at), ino)
	l.must(err)
	change(&n)
	content, err := inode.Put(l.content(at), ino, n)
	l.must(err)
	l.wrap(at, content)
}

// putSynced changes the inode behind the contents of a sync.
func (l *lying) putSynced(i int, change func(n *api.Inode)) {
	l.t.Helper()
	at := l.chain[i].At + len(l.chain[i].R.L)
	n, _ := inode.Decode(l.content(at)[:api.RootSize])
	change(&n)
	said, err := inode.Encode(n)
	l.must(err)
	l.wrap(at, said)
}

// behind is where the log goes on.
func (l *lying) behind() int {
	last := l.chain[len(l.chain)-1]
	return last.At + 1 + len(last.R.L)
}

// firstVbn is the first number of what b has.
func (l *lying) vbnOf(ino int) uint32 {
	l.t.Helper()
	n, err := inode.Get(l.content(int(l.dats[l.ifile().Map[0]].Phys)), ino)
	l.must(err)
	return n.Map[0]
}

// changes are such that no call of a volume leaves a disk so, each by its name.
func changes() map[string]func(l *lying) {
	out := map[string]func(l *lying){}
	for _, some := range []map[string]func(l *lying){ofSupers(), ofRecords(), ofTables(), ofFiles(), ofSyncs()} {
		for name, change := range some {
			out[name] = change
		}
	}
	return out
}

func ofSupers() map[string]func(l *lying) {
	return map[string]func(l *lying){
		"no super block":                     func(l *lying) { l.image[api.SuperOne], l.image[api.SuperTwo] = "", "" },
		"super blocks of another size":       func(l *lying) { l.image = append(l.image, make([]string, 16)...) },
		"a super block at the other's place": func(l *lying) { l.putSuper(func(s *api.Super) { s.Seq++ }) },
		"a super block of another root":      func(l *lying) { l.putSuper(func(s *api.Super) { s.At-- }) },
		"a super block of a sync":            func(l *lying) { l.putSuper(func(s *api.Super) { s.At = l.behind() - 1 }) },
		"a super block of an empty place":    func(l *lying) { l.putSuper(func(s *api.Super) { s.At = 100 }) },
		"a super block of a record":          func(l *lying) { l.putSuper(func(s *api.Super) { s.At = l.chain[0].At }) },
		"a super block of a segment's start": func(l *lying) { l.putSuper(func(s *api.Super) { s.At = 16 }) },
		"a super block of another number":    func(l *lying) { l.putSuper(func(s *api.Super) { s.Cp-- }) },
		"a super block of a later number":    func(l *lying) { l.putSuper(func(s *api.Super) { s.Cp++ }) },
	}
}

func ofRecords() map[string]func(l *lying) {
	return map[string]func(l *lying){
		"a root's record of another checkpoint": func(l *lying) { l.putRecord(0, func(r *api.Record) { r.Cp++ }) },
		"a root's record, and its super block, of another checkpoint": func(l *lying) {
			l.putRecord(0, func(r *api.Record) { r.Cp++ })
			l.putSuper(func(s *api.Super) { s.Cp++ })
		},
		"a root's record with a block that none is": func(l *lying) {
			l.image[l.chain[0].At+1] = "X"
		},
		"a root's record without a next segment": func(l *lying) { l.putRecord(0, func(r *api.Record) { r.Next = 0 }) },
		"a root's record with a next segment that none is": func(l *lying) {
			l.putRecord(0, func(r *api.Record) { r.Next = 8 })
		},
		"a sync of another checkpoint": func(l *lying) { l.putRecord(1, func(r *api.Record) { r.Cp-- }) },
		"a record that is gone, ahead of another one": func(l *lying) {
			l.image[l.chain[1].At] = ""
		},
		"a record of a later number elsewhere": func(l *lying) {
			b, _ := record.Encode(api.Record{Seq: l.chain[2].R.Seq + 1, Cp: 2, Next: 1, L: l.chain[2].R.L})
			l.image[112] = b
		},
	}
}

func ofTables() map[string]func(l *lying) {
	return map[string]func(l *lying){
		"no root":                    func(l *lying) { l.wrap(l.super.At, "x") },
		"a root of another number":   func(l *lying) { l.putRoot(func(r *api.Root) { r.Cp++ }) },
		"a root of another time":     func(l *lying) { l.putRoot(func(r *api.Root) { r.Tick++ }) },
		"no table of checkpoints":    func(l *lying) { l.wrap(int(l.root.Cps[0]), "") },
		"an older newest checkpoint": func(l *lying) { l.putChecks(func() { l.checks = l.checks[:1] }) },
		"a later newest checkpoint":  func(l *lying) { l.putChecks(func() { l.checks[1].Cp++ }) },
		"no block of the table of checkpoints": func(l *lying) {
			l.image[l.root.Cps[0]] = ""
		},
		"tables elsewhere": func(l *lying) {
			l.putRoot(func(r *api.Root) { r.Cps, r.Dats = r.Dats, r.Cps })
		},
		"a table beyond the disk":     func(l *lying) { l.putRoot(func(r *api.Root) { r.Dats = []uint32{1000} }) },
		"no table of numbers":         func(l *lying) { l.wrap(int(l.root.Dats[0]), "x") },
		"an empty table of numbers":   func(l *lying) { l.wrap(int(l.root.Dats[0]), "") },
		"a number beyond the disk":    func(l *lying) { l.more(api.Trans{Phys: 128, Start: 1}) },
		"a number of a later start":   func(l *lying) { l.more(api.Trans{Phys: 100, Start: 3}) },
		"a number of a later end":     func(l *lying) { l.more(api.Trans{Phys: 100, Start: 1, End: 3}) },
		"a number of another's block": func(l *lying) { l.more(api.Trans{Phys: l.dats[1].Phys, Start: 1}) },
		"a number of a table's block": func(l *lying) { l.more(api.Trans{Phys: l.root.Dats[0], Start: 1}) },
		"a number of the root's block": func(l *lying) {
			l.more(api.Trans{Phys: uint32(l.super.At), Start: 1})
		},
		"a number where the log goes on": func(l *lying) { l.more(api.Trans{Phys: uint32(l.behind()), Start: 1}) },
		"a number at the end of the log's segment": func(l *lying) {
			l.more(api.Trans{Phys: uint32(l.behind() | 15), Start: 1})
		},
	}
}

// more puts a number more into the table.
func (l *lying) more(t api.Trans) {
	l.t.Helper()
	l.putDats(func() { l.dats = append(l.dats, t) })
}

func ofFiles() map[string]func(l *lying) {
	end := func(of func(l *lying) uint32) func(l *lying) {
		return func(l *lying) {
			vbn := of(l)
			l.putDats(func() { l.dats[vbn].Start, l.dats[vbn].End = 1, 2 })
		}
	}
	return map[string]func(l *lying){
		"files that are none": func(l *lying) { l.putChecks(func() { l.checks[1].Root = zeros(42) }) },
		"files of another kind": func(l *lying) {
			n := l.ifile()
			n.Kind = api.Dir
			said, _ := inode.Encode(n)
			l.putChecks(func() { l.checks[1].Root = said })
		},
		"files of fewer bytes": func(l *lying) {
			n := l.ifile()
			n.Size--
			said, _ := inode.Encode(n)
			l.putChecks(func() { l.checks[1].Root = said })
		},
		"files with more places of none": func(l *lying) {
			n := l.ifile()
			n.Size *= 2
			said, _ := inode.Encode(n)
			l.putChecks(func() { l.checks[1].Root = said })
		},
		"no bytes of files":               func(l *lying) { l.wrap(int(l.dats[l.ifile().Map[0]].Phys), "") },
		"a number of files that is over":  end(func(l *lying) uint32 { return l.ifile().Map[0] }),
		"a number of a file that is over": end(func(l *lying) uint32 { return l.vbnOf(4) }),
		"a number that stands for two":    func(l *lying) { l.putInode(4, func(n *api.Inode) { n.Map[0], n.Size = l.vbnOf(3), 508 }) },
		"a number that is free":           func(l *lying) { l.putInode(4, func(n *api.Inode) { n.Map[0] = 1000 }) },
		"a file of another size":          func(l *lying) { l.putInode(4, func(n *api.Inode) { n.Size-- }) },
		"a file of too many bytes": func(l *lying) {
			l.putInode(4, func(n *api.Inode) { n.Size, n.Depth = api.MaxFile+1, 2 })
		},
		"a file of more names":        func(l *lying) { l.putInode(4, func(n *api.Inode) { n.Links++ }) },
		"a file that nobody names":    func(l *lying) { l.putInode(5, func(n *api.Inode) { n.Kind, n.Links = api.File, 1 }) },
		"a root that is a file":       func(l *lying) { l.putInode(2, func(n *api.Inode) { n.Kind = api.File }) },
		"a root without names":        func(l *lying) { l.putInode(2, func(n *api.Inode) { n.Size, n.Map = 0, [6]uint32{} }) },
		"a file's block that none is": func(l *lying) { l.image[l.dats[l.vbnOf(4)].Phys] = "x" },
	}
}

func ofSyncs() map[string]func(l *lying) {
	entry := func(change func(e []api.Entry)) func(l *lying) {
		return func(l *lying) { l.putRecord(1, func(r *api.Record) { change(r.L) }) }
	}
	last := func(change func(e *api.Entry)) func(l *lying) {
		return entry(func(e []api.Entry) { change(&e[len(e)-1]) })
	}
	return map[string]func(l *lying){
		"a sync of another kind":                   entry(func(e []api.Entry) { e[0].Kind = api.KMap }),
		"a sync of a table":                        entry(func(e []api.Entry) { e[0] = api.Entry{Kind: api.KDat} }),
		"a sync of two files":                      entry(func(e []api.Entry) { e[0].File = 4 }),
		"a sync that is numbered otherwise":        entry(func(e []api.Entry) { e[0].Vbn = 2 }),
		"a sync of other contents":                 entry(func(e []api.Entry) { e[0].Index = 1 }),
		"a sync of contents behind all":            entry(func(e []api.Entry) { e[1].Index = 3 }),
		"a sync without an inode":                  last(func(e *api.Entry) { e.File = 3 }),
		"a sync whose inode is numbered otherwise": last(func(e *api.Entry) { e.Vbn++ }),
		"a sync of another file":                   last(func(e *api.Entry) { e.Index = 4 }),
		"a sync of the root": func(l *lying) {
			was, err := inode.Get(l.content(int(l.dats[l.ifile().Map[0]].Phys)), 2)
			l.must(err)
			l.putRecord(2, func(r *api.Record) {
				r.L = []api.Entry{{Kind: api.KData, File: 2, Vbn: 1}, {Kind: api.KData, File: 1, Index: 2, Vbn: 2}}
			})
			l.wrap(l.chain[2].At+1, l.content(int(l.dats[was.Map[0]].Phys)))
			l.putSynced(2, func(n *api.Inode) { *n = was })
		},
		"a sync of none": entry(func(e []api.Entry) {
			for i := range e[:len(e)-1] {
				e[i].File = 200
			}
			e[len(e)-1].Index = 200
		}),
		"a sync of another mode":         func(l *lying) { l.putSynced(1, func(n *api.Inode) { n.Mode++ }) },
		"a sync of more names":           func(l *lying) { l.putSynced(1, func(n *api.Inode) { n.Links++ }) },
		"a sync of a directory":          func(l *lying) { l.putSynced(2, func(n *api.Inode) { n.Kind = api.Dir }) },
		"a sync of a free inode":         func(l *lying) { l.putSynced(2, func(n *api.Inode) { *n = api.Inode{} }) },
		"a sync of fewer bytes":          func(l *lying) { l.putSynced(1, func(n *api.Inode) { n.Size = 508 }) },
		"a sync of a piece of a content": func(l *lying) { l.putSynced(1, func(n *api.Inode) { n.Size = 600 }) },
		"a sync of too many bytes": func(l *lying) {
			l.putSynced(2, func(n *api.Inode) { n.Size, n.Depth, n.Map = api.MaxFile+1, 2, [6]uint32{1} })
		},
		"a sync with more behind its inode": func(l *lying) {
			at := l.chain[1].At + len(l.chain[1].R.L)
			l.wrap(at, l.content(at)[:42]+l.content(at)[:42])
		},
	}
}

// P19.1: what no call of a volume leaves so is no volume.
func TestRefused(t *testing.T) {
	for name, change := range changes() {
		l := newLying(t)
		was := slices.Clone(l.image)
		change(l)
		for at := range l.image {
			l.image[at] = (l.image[at] + zeros(512))[:512]
		}
		if slices.Equal(l.image, was) {
			t.Fatalf("%s: nothing is changed", name)
		}
		d := diskOf(t, l.image)
		if v, err := mount.Mount(d); v != nil || err != api.ErrMount || d.Ops() != 0 {
			t.Errorf("%s: %v, %d", name, v != nil, err)
		}
	}
}

// lyingView is what is told of the older checkpoint, if it speaks of other files.
func lyingView(t *testing.T, change func(l *lying)) ([]api.Node, api.Errno) {
	t.Helper()
	l := newLying(t)
	change(l)
	v := mounted(t, diskOf(t, l.image))
	return v.View(1)
}

// P19.2: what an older checkpoint does not keep is not told as its files, though it could be read now.
func TestViewRefuses(t *testing.T) {
	if l, err := lyingView(t, func(l *lying) {}); err != api.OK || len(l) != 3 {
		t.Fatalf("View(1): %d", err)
	}
	for i, change := range []func(l *lying){
		func(l *lying) { l.putChecks(func() { l.checks[0].Root = l.checks[1].Root }) },
		func(l *lying) { l.putChecks(func() { l.checks[0].Root = zeros(42) }) },
		func(l *lying) { l.putChecks(func() { l.checks[0].Root = text(42, 1) }) },
	} {
		if l, err := lyingView(t, change); len(l) != 0 || err != api.ErrVol {
			t.Errorf("View(1) of other files, %d: %d files, %d", i, len(l), err)
		}
	}
}
