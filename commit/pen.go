package commit

import (
	"slices"

	"nautilus/api"
	"nautilus/inode"
	"nautilus/num"
	"nautilus/record"
	"nautilus/usage"
	"nautilus/vol"
)

// page is a record to come: its place, the segment that comes next, and its items.
type page struct {
	at    int
	next  int
	items []api.Item
}

// pen goes ahead of the log: it lays items into pages, and tells where they will stand, so that it is known whether all have room ahead of writing one.
type pen struct {
	segs  []api.Seg // those that it takes are Active
	at    int       // where the open page's record will stand
	next  int
	items []api.Item // of the open page
	pages []page
}

// pen is one that begins where the log goes on.
func (v *Volume) pen() pen {
	p := pen{segs: v.Usage(), at: v.log.At()}
	if next := v.log.Next(); next != p.at/api.Segment && p.segs[next].Live == 0 { // the first one has super blocks, so it is none
		p.next = next
	}
	return p
}

// behind is a pen that goes on behind what this one laid.
func (p *pen) behind() pen {
	return pen{segs: slices.Clone(p.segs), at: p.at, next: p.next}
}

// put lays an item, and tells at which block it will stand.
func (p *pen) put(item api.Item) (uint32, api.Errno) {
	if len(p.items) == record.Room(p.at) {
		if !p.choose(p.segs) {
			return 0, api.ErrSpace
		}
		p.turn()
	}
	p.items = append(p.items, item)
	return uint32(p.at + len(p.items)), api.OK
}

// choose says which segment comes next, if none is known yet: a clean one.
func (p *pen) choose(segs []api.Seg) bool {
	if p.next != none {
		return true
	}
	next, ok := usage.Next(segs, p.at/api.Segment)
	if !ok {
		return false
	}
	p.next = next
	p.segs[next].State = api.Active
	return true
}

// turn closes the open page, and goes on behind it, as the log does.
func (p *pen) turn() {
	p.pages = append(p.pages, page{p.at, p.next, p.items})
	behind := p.at + 1 + len(p.items)
	if behind/api.Segment == p.at/api.Segment && record.Room(behind) > 0 {
		p.at = behind
	} else {
		p.at, p.next = p.next*api.Segment, none
	}
	p.items = nil
}

// sync lays what a file has that it was not, and its inode behind. What was bytes 0, or nothing, and is, need not be told.
func (p *pen) sync(ino uint32, was string, n api.Node) api.Errno {
	count, err := uint32(0), api.OK
	put := func(file uint32, index uint32, content string) bool {
		count++
		_, err = p.put(api.Item{E: api.Entry{Kind: api.KData, File: file, Index: index, Vbn: count}, Content: content})
		return err == api.OK
	}
	had := inode.Blocks(uint32(len(was)))
contents:
	for i, content := range changes(was, n.Data) {
		if i >= had && num.Bare(content, 0) {
			continue contents
		}
		if !put(ino, uint32(i), content) {
			break contents
		}
	}
	if err != api.OK {
		return err
	}
	said, err := inodeOf(n)
	if err != api.OK {
		return err
	}
	if !put(api.IfileNo, ino, said) {
		return err
	}
	if !p.choose(p.segs) {
		return api.ErrSpace
	}
	p.turn()
	return api.OK
}

// inodeOf are the bytes of a synced file's inode. Its blocks have no virtual numbers yet: where a map must have one, 1 stands.
func inodeOf(n api.Node) (string, api.Errno) {
	var m [6]uint32
	if inode.Depth(uint32(len(n.Data))) > 0 {
		m[0] = 1
	}
	made, err := vol.Inode(n, m)
	if err != api.OK {
		return "", err
	}
	return inode.Encode(made)
}
