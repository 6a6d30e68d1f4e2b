package commit_test

import (
	"slices"
	"strings"
	"testing"

	"nautilus/api"
	"nautilus/bmap"
	"nautilus/cps"
	"nautilus/dat"
	"nautilus/disk"
	"nautilus/inode"
	"nautilus/log"
	"nautilus/record"
	"nautilus/root"
	"nautilus/super"
	"nautilus/vol"
)

// found is what lies on a disk, read as package commit's own words have it, without asking a volume.
type found struct {
	t      *testing.T
	d      *disk.Disk
	anchor int // the block of the record that the super block speaks of
	seq    uint64
	dats   []api.Trans
	checks []api.Check
	root   api.Root
	at     int // the root's block
	files  []api.Node
	synced bool
	chain  []api.Found
}

// find reads a disk; false, if no volume lies there.
func find(t *testing.T, d *disk.Disk) (found, bool) {
	t.Helper()
	f := found{t: t, d: d}
	s, _, err := super.Newest(f.block(api.SuperOne), f.block(api.SuperTwo), d.Blocks())
	if err != api.OK {
		return f, false
	}
	f.goTo(s)
	chain, _, err := log.Scan(d, f.anchor, f.seq, 0)
	f.must(err, "scan")
	f.chain = chain
	last := 0
	for i, one := range chain {
		if one.R.Ends {
			last = i
		}
	}
	if len(chain) == 0 || !chain[last].R.Ends {
		t.Fatalf("no root at the super block's place: %+v", s)
	}
	f.tables(chain[last])
	f.files = f.view(f.checks[len(f.checks)-1].Root)
	f.sync(chain[last+1:])
	return f, true
}

// goTo finds the record ahead of the super block's root.
func (f *found) goTo(s api.Super) {
	f.t.Helper()
	for at := s.At - 1; at >= s.At/16*16; at-- {
		r, err := record.Decode(f.block(at))
		if err == api.OK {
			if at+len(r.L) != s.At || !r.Ends || r.Cp != s.Cp {
				f.t.Fatalf("the super block %+v speaks of a root that none is", s)
			}
			f.anchor, f.seq = at, r.Seq
			return
		}
	}
	f.t.Fatalf("the super block %+v speaks of no record", s)
}

// tables reads what a root says.
func (f *found) tables(one api.Found) {
	f.t.Helper()
	r, err := root.Decode(one.Contents[len(one.Contents)-1])
	f.must(err, "root")
	f.root, f.at = r, one.At+len(one.R.L)
	l, err := cps.Decode(f.contents(r.Cps))
	f.must(err, "table of checkpoints")
	f.checks = l
	newest := l[len(l)-1]
	if r.Cp != newest.Cp || r.Tick != newest.Tick || one.R.Cp != r.Cp {
		f.t.Fatalf("a root of %d, %d in a record of %d, and the newest checkpoint %+v", r.Cp, r.Tick, one.R.Cp, newest)
	}
	dats, err := dat.Decode(f.contents(r.Dats))
	f.must(err, "table of numbers")
	f.dats, _, err = dat.Sweep(dats, cps.Numbers(l))
	f.must(err, "sweep")
}

// sync lays syncs over the files.
func (f *found) sync(chain []api.Found) {
	f.t.Helper()
	var items []api.Item
	for _, one := range chain {
		for i, e := range one.R.L {
			items = append(items, api.Item{E: e, Content: one.Contents[i]})
		}
		if !one.R.Sync {
			continue
		}
		last := items[len(items)-1]
		ino := last.E.Index
		if last.E.Kind != api.KData || last.E.File != 1 || last.E.Vbn != uint32(len(items)) {
			f.t.Fatalf("a sync of %d blocks ends with %+v", len(items), last.E)
		}
		n, err := inode.Decode(last.Content[:api.RootSize])
		f.must(err, "inode")
		data := make([]byte, (int(n.Size)+api.Content-1)/api.Content*api.Content)
		copy(data, f.files[ino].Data[:min(len(f.files[ino].Data), int(n.Size))])
		for i, item := range items[:len(items)-1] {
			if item.E.Kind != api.KData || item.E.File != ino || item.E.Vbn != uint32(i+1) {
				f.t.Fatalf("a sync of %d has %+v", ino, item.E)
			}
			copy(data[int(item.E.Index)*api.Content:], item.Content)
		}
		f.files[ino].Data, f.files[ino].Time = string(data[:n.Size]), n.Time
		f.synced, items = true, nil
	}
}

// view reads the files of a checkpoint's root.
func (f *found) view(said string) []api.Node {
	f.t.Helper()
	n, err := inode.Decode(said)
	f.must(err, "inode of the file of inodes")
	inodes, err := vol.Inodes(f.file(n))
	f.must(err, "inodes")
	var files []api.Node
	for _, n := range inodes {
		data, err := vol.Paste(f.file(n), n.Size)
		f.must(err, "file")
		file, err := vol.Node(n, data)
		f.must(err, "node")
		files = append(files, file)
	}
	return vol.Trim(files)
}

// file reads the contents of an inode's file.
func (f *found) file(n api.Inode) []string {
	f.t.Helper()
	var blocks []string
	if n.Depth > 0 {
		blocks = f.numbers(n.Map[:1])
	}
	if n.Depth > 1 {
		ids, err := bmap.Below(n.Size, blocks[0])
		f.must(err, "top of a map")
		blocks = append(blocks, f.numbers(ids)...)
	}
	vbns, err := bmap.Join(n.Size, n.Map, blocks)
	f.must(err, "map")
	return f.numbers(vbns)
}

// numbers reads what virtual numbers stand for.
func (f *found) numbers(vbns []uint32) []string {
	f.t.Helper()
	var out []string
	for _, vbn := range vbns {
		if vbn == 0 {
			out = append(out, strings.Repeat("\x00", 508))
			continue
		}
		if int(vbn) >= len(f.dats) || f.dats[vbn] == (api.Trans{}) {
			f.t.Fatalf("the number %d is free", vbn)
		}
		out = append(out, f.contents([]uint32{f.dats[vbn].Phys})...)
	}
	return out
}

// contents reads those of blocks.
func (f *found) contents(places []uint32) []string {
	f.t.Helper()
	var out []string
	for _, at := range places {
		content, err := record.Unwrap(f.block(int(at)))
		f.must(err, "block")
		out = append(out, content)
	}
	return out
}

func (f *found) block(at int) string {
	f.t.Helper()
	b, err := f.d.Read(at)
	f.must(err, "read")
	return b
}

func (f *found) must(err api.Errno, what string) {
	f.t.Helper()
	if err != api.OK {
		f.t.Fatalf("%s: %d", what, err)
	}
}

// needed are the blocks without which something of what was found would be lost.
func (f *found) needed() map[int]bool {
	out := map[int]bool{f.at: true}
	for _, t := range f.dats {
		if t != (api.Trans{}) {
			out[int(t.Phys)] = true
		}
	}
	for _, at := range slices.Concat(f.root.Dats, f.root.Cps) {
		out[int(at)] = true
	}
	for _, one := range f.chain {
		for i := range len(one.R.L) + 1 {
			out[one.At+i] = true
		}
	}
	return out
}

// said is what records say of the blocks that virtual numbers stand for, by these.
func (f *found) said() map[uint32]api.Entry {
	f.t.Helper()
	standing := map[int]api.Entry{}
	for segment := 1; segment < f.d.Blocks()/16; segment++ {
		for at := segment * 16; at < segment*16+16; {
			r, err := record.Decode(f.block(at))
			if err != api.OK {
				break
			}
			for i, e := range r.L {
				standing[at+1+i] = e
			}
			at += 1 + len(r.L)
		}
	}
	out := map[uint32]api.Entry{}
	for vbn, t := range f.dats {
		if t != (api.Trans{}) {
			out[uint32(vbn)] = standing[int(t.Phys)]
		}
	}
	return out
}

// told is what was found, as a model's words.
func (f *found) told() model {
	m := model{files: f.files, laid: f.files, synced: f.synced}
	for _, c := range f.checks {
		root := c.Root
		c.Root = ""
		m.kept = append(m.kept, point{c, f.view(root)})
	}
	return m
}
