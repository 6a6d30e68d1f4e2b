package commit

import (
	"iter"
	"slices"
	"strings"

	"nautilus/api"
	"nautilus/bmap"
	"nautilus/cps"
	"nautilus/dat"
	"nautilus/inode"
	"nautilus/num"
	"nautilus/root"
	"nautilus/usage"
	"nautilus/vol"
)

// draft is a state to come, and the pages that bring it about. It is worked out wholly ahead of writing: of an error nothing is left.
type draft struct {
	pen    pen
	blocks int // of the disk
	was    state
	now    state
	cp     uint64
	low    int // no number below it is free
	clears int // the segment in which nothing is to live
	ended  int // where the last page's record will stand
	err    api.Errno
}

// draft is one in which nothing has changed yet.
func (v *Volume) draft() *draft {
	w := &draft{pen: v.pen(), blocks: v.d.Blocks(), was: v.now, now: v.now, cp: v.now.newest().Cp, low: 1}
	w.now.dats = slices.Clone(v.now.dats)
	return w
}

// checkpoint makes one of these files.
func (w *draft) checkpoint(files []api.Node, tick uint64) {
	w.cp++
	w.now.files = vol.Trim(files)
	table, err := w.layFiles()
	w.fail(err)
	w.now.table = table
	w.now.ifile = w.lay(api.IfileNo, w.was.table, w.now.table, w.was.ifile)
	said, err := inode.Encode(w.inode(api.Node{Kind: api.File, Data: w.now.table}, w.now.ifile))
	w.fail(err)
	w.now.checks, err = cps.Add(w.was.checks, api.Check{Cp: w.cp, Tick: tick, Root: said})
	w.fail(err)
	w.seal()
}

// layFiles lays all files, and is the bytes of the file of inodes.
func (w *draft) layFiles() (string, api.Errno) {
	w.now.places = make([]place, len(w.now.files))
	inodes := make([]api.Inode, len(w.now.files))
files:
	for ino := range max(len(w.was.files), len(w.now.files)) {
		was, is := nth(w.was.files, ino), nth(w.now.files, ino)
		stands := w.lay(uint32(ino), was.Data, is.Data, nth(w.was.places, ino))
		if ino < len(inodes) {
			w.now.places[ino], inodes[ino] = stands, w.inode(is, stands)
		}
		if w.err != api.OK {
			break files // the others could be many, and great
		}
	}
	if w.err != api.OK {
		return "", w.err
	}
	contents, err := vol.Table(inodes)
	return strings.Join(contents, ""), err
}

// lay lays what a file has that it was not, and is where it stands then. What was stays where it is, for the checkpoints ahead.
func (w *draft) lay(file uint32, was string, is string, old place) place {
	if was == is || w.err != api.OK {
		return old
	}
	vbns := make([]uint32, inode.Blocks(uint32(len(is))))
	kept := copy(vbns, old.vbns)
	w.end(old.vbns[kept:]...)
contents:
	for i, content := range changes(was, is) {
		w.end(vbns[i])
		vbns[i] = 0
		if num.Bare(content, 0) {
			continue contents // it is a hole
		}
		vbns[i] = w.number()
		w.write(api.Entry{Kind: api.KData, File: file, Index: uint32(i), Vbn: vbns[i]}, content)
		if w.err != api.OK {
			break contents
		}
	}
	return w.layMap(file, len(was), len(is), vbns, old)
}

// layMap lays the blocks of a file's map that are others than they were, from the last one on, for the top has the numbers of those behind it.
func (w *draft) layMap(file uint32, was int, is int, vbns []uint32, old place) place {
	size := uint32(is)
	ids := make([]uint32, bmap.Count(size))
	alike := inode.Depth(uint32(was)) == inode.Depth(size)
	for k := len(ids) - 1; k >= 0; k-- {
		if alike && k < len(old.ids) && slices.Equal(numbers(vbns, ids, k), numbers(old.vbns, old.ids, k)) {
			ids[k] = old.ids[k]
		} else {
			ids[k] = w.number()
		}
	}
	m, contents, err := bmap.Lay(size, vbns, ids)
	w.fail(err)
	for k, content := range contents {
		if nth(old.ids, k) != ids[k] {
			w.write(api.Entry{Kind: api.KMap, File: file, Index: uint32(k), Vbn: ids[k]}, content)
		}
	}
	for k, id := range old.ids {
		if nth(ids, k) != id {
			w.end(id)
		}
	}
	return place{vbns, ids, m}
}

// numbers are those that stand in a block of a map.
func numbers(vbns []uint32, ids []uint32, k int) []uint32 {
	switch {
	case len(ids) == 1:
		return vbns
	case k == 0:
		return ids[1:]
	}
	from := (k - 1) * api.PerMap
	return vbns[from:min(from+api.PerMap, len(vbns))]
}

// move lays the blocks that live in the segment that is to be cleared, each as the entry that stood for it.
func (w *draft) move(read func(uint32) (string, api.Errno), entries map[int]api.Entry) {
	for vbn, t := range w.was.dats {
		if isFree(t) || int(t.Phys)/api.Segment != w.clears {
			continue
		}
		e := entries[int(t.Phys)]
		if e.Vbn != uint32(vbn) { // it is said nowhere whose it is, so it is none's but the volume's
			e = api.Entry{Kind: api.KData, File: api.IfileNo, Vbn: uint32(vbn)}
		}
		content, err := read(uint32(vbn))
		w.fail(err)
		w.write(e, content)
	}
}

// seal lays the tables' blocks that are others than they were, and the root, and closes the last page.
func (w *draft) seal() {
	if w.err != api.OK {
		return
	}
	newest := w.now.newest()
	w.now.root = api.Root{Cp: newest.Cp, Tick: newest.Tick}
	blocks, err := dat.Encode(w.now.dats)
	w.fail(err)
	for k, content := range blocks {
		block := nth(w.was.root.Dats, k)
		if !w.stays(k) {
			block = w.put(api.Entry{Kind: api.KDat, Index: uint32(k)}, content)
		}
		w.now.root.Dats = append(w.now.root.Dats, block)
	}
	blocks, err = cps.Encode(w.now.checks)
	w.fail(err)
	for k, content := range blocks {
		w.now.root.Cps = append(w.now.root.Cps, w.put(api.Entry{Kind: api.KCps, Index: uint32(k)}, content))
	}
	if w.err != api.OK {
		return // a root of blocks that have no places is none
	}
	content, err := root.Encode(w.now.root)
	w.fail(err)
	w.now.at = int(w.put(api.Entry{Kind: api.KRoot}, content))
	w.close()
}

// stays tells whether a block of the table of virtual numbers stays where it was. Those of the table of checkpoints never do: they are few, and would hold segments where nothing else lives.
func (w *draft) stays(k int) bool {
	block := nth(w.was.root.Dats, k)
	return block != 0 && int(block)/api.Segment != w.clears && slices.Equal(chunk(w.was.dats, k), chunk(w.now.dats, k))
}

// close closes the last page. If no segment is clean, one comes next that will be, when all is done: nothing is written there ahead of that.
func (w *draft) close() {
	if w.err != api.OK {
		return
	}
	w.ended = w.pen.at
	if !w.pen.choose(w.pen.segs) && !w.pen.choose(w.segments()) {
		w.fail(api.ErrSpace)
		return
	}
	w.pen.turn()
}

// hasRoom tells whether all could be done, and the reserve is left then.
func (w *draft) hasRoom() bool {
	return w.err == api.OK && usage.CleanOnes(w.segments()) >= api.Reserve
}

// segments are what they will be.
func (w *draft) segments() []api.Seg {
	return segments(w.now.live(w.blocks, map[int]struct{}{w.ended: {}}), w.pen.at, w.pen.next)
}

// number is the lowest number that is free; from then on it is not.
func (w *draft) number() uint32 {
	for w.low < len(w.now.dats) && !isFree(w.now.dats[w.low]) {
		w.low++
	}
	switch {
	case w.low == api.MaxVbns:
		w.fail(api.ErrSpace)
		return 0
	case w.low == len(w.now.dats):
		w.now.dats = append(w.now.dats, api.Trans{})
	}
	w.now.dats[w.low] = api.Trans{Phys: firstBlock, Start: w.cp}
	return uint32(w.low)
}

// write lays a number's block.
func (w *draft) write(e api.Entry, content string) {
	block := w.put(e, content)
	if w.err == api.OK {
		w.now.dats[e.Vbn].Phys = block
	}
}

// end says of numbers, but those of holes, that the checkpoint to come has them no more.
func (w *draft) end(vbns ...uint32) {
	for _, vbn := range vbns {
		switch {
		case vbn == 0:
		case int64(vbn) >= int64(len(w.now.dats)):
			w.fail(api.ErrVol)
		default:
			w.now.dats[vbn].End = w.cp
		}
	}
}

// put lays a block, and tells where it will stand.
func (w *draft) put(e api.Entry, content string) uint32 {
	if w.err != api.OK {
		return 0
	}
	block, err := w.pen.put(api.Item{E: e, Content: content})
	w.fail(err)
	return block
}

func (w *draft) inode(n api.Node, stands place) api.Inode {
	made, err := vol.Inode(n, stands.m)
	w.fail(err)
	return made
}

// fail keeps the first error.
func (w *draft) fail(err api.Errno) {
	if w.err == api.OK {
		w.err = err
	}
}

// changes goes through the contents of is that are not those of was, each with its number.
func changes(was string, is string) iter.Seq2[int, string] {
	return func(yield func(int, string) bool) {
		contents := vol.Cut(is)
		for _, i := range vol.Changed(was, is) {
			if !yield(i, contents[i]) {
				return
			}
		}
	}
}

// chunk are the places of a block of the table of virtual numbers, as far as there are any.
func chunk(l []api.Trans, k int) []api.Trans {
	from := min(k*api.PerDat, len(l))
	return l[from:min(from+api.PerDat, len(l))]
}

// nth is what a list has there, an empty one behind its end.
func nth[V any](l []V, i int) V {
	if i >= len(l) {
		var empty V
		return empty
	}
	return l[i]
}
