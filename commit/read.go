package commit

import (
	"strings"

	"nautilus/api"
	"nautilus/bmap"
	"nautilus/inode"
	"nautilus/record"
	"nautilus/vol"
)

// reader reads the contents that virtual numbers stand for, of holes bytes 0.
func (v *Volume) reader() func(uint32) (string, api.Errno) {
	dats, d := v.now.dats, v.d
	hole := strings.Repeat("\x00", api.Content)
	return func(vbn uint32) (string, api.Errno) {
		if vbn == 0 {
			return hole, api.OK
		}
		if int64(vbn) >= int64(len(dats)) || isFree(dats[vbn]) {
			return "", api.ErrVol
		}
		b, err := d.Read(int(dats[vbn].Phys))
		if err != api.OK {
			return "", err
		}
		content, err := record.Unwrap(b)
		if err != api.OK {
			return "", api.ErrVol
		}
		return content, api.OK
	}
}

// readFiles reads the files of a checkpoint's root.
func readFiles(said string, read func(uint32) (string, api.Errno)) ([]api.Node, api.Errno) {
	n, err := inode.Decode(said)
	if err != api.OK {
		return nil, api.ErrVol
	}
	contents, err := readContents(n, read)
	if err != api.OK {
		return nil, err
	}
	inodes, err := vol.Inodes(contents)
	if err != api.OK {
		return nil, err
	}
	files := make([]api.Node, len(inodes))
	for ino, n := range inodes {
		contents, err := readContents(n, read)
		if err != api.OK {
			return nil, err
		}
		data, err := vol.Paste(contents, n.Size)
		if err != api.OK {
			return nil, err
		}
		if files[ino], err = vol.Node(n, data); err != api.OK {
			return nil, err
		}
	}
	return vol.Trim(files), api.OK
}

// readContents reads the contents of an inode's file.
func readContents(n api.Inode, read func(uint32) (string, api.Errno)) ([]string, api.Errno) {
	if n.Size > api.MaxFile { // more than any file of a volume has
		return nil, api.ErrVol
	}
	blocks, err := readMap(n, read)
	if err != api.OK {
		return nil, err
	}
	vbns, err := bmap.Join(n.Size, n.Map, blocks)
	if err != api.OK {
		return nil, api.ErrVol
	}
	return readAll(vbns, read)
}

// readMap reads the blocks of an inode's map.
func readMap(n api.Inode, read func(uint32) (string, api.Errno)) ([]string, api.Errno) {
	count := bmap.Count(n.Size)
	if count == 0 {
		return nil, api.OK
	}
	top, err := readAll(n.Map[:1], read)
	if err != api.OK || count == 1 {
		return top, err
	}
	ids, err := bmap.Below(n.Size, top[0])
	if err != api.OK {
		return nil, api.ErrVol
	}
	lower, err := readAll(ids, read)
	if err != api.OK {
		return nil, err
	}
	return append(top, lower...), api.OK
}

func readAll(vbns []uint32, read func(uint32) (string, api.Errno)) ([]string, api.Errno) {
	contents := make([]string, len(vbns))
	for i, vbn := range vbns {
		content, err := read(vbn)
		if err != api.OK {
			return nil, err
		}
		contents[i] = content
	}
	return contents, api.OK
}

// entries are what the records of a segment say of its blocks, by the blocks' places.
func (v *Volume) entries(segment int) map[int]api.Entry {
	said := make(map[int]api.Entry)
	end := (segment + 1) * api.Segment
	for at := segment * api.Segment; at < end; {
		b, err := v.d.Read(at)
		if err != api.OK {
			return said
		}
		r, err := record.Decode(b)
		if err != api.OK {
			return said
		}
		for i, e := range r.L {
			said[at+1+i] = e
		}
		at += 1 + len(r.L)
	}
	return said
}
