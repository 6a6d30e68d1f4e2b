package commit

import (
	"strings"

	"nautilus/api"
	"nautilus/bmap"
	"nautilus/dat"
	"nautilus/inode"
	"nautilus/plain"
	"nautilus/record"
	"nautilus/vol"
)

// reader reads the contents that virtual numbers stand for, of holes bytes 0.
func (v *Volume) reader() func(uint32) (string, api.Errno) {
	dats, d := v.now.dats, v.d
	hole := strings.Repeat("\x00", api.Content)
	return func(vbn uint32) (string, api.Errno) {
		if vbn == 0 {
			return hole, api.OK
		}
		if int64(vbn) >= int64(len(dats)) || isFree(dats[vbn]) {
			return "", api.ErrVol
		}
		b, err := d.Read(int(dats[vbn].Phys))
		if err != api.OK {
			return "", err
		}
		content, err := record.Unwrap(b)
		if err != api.OK {
			return "", api.ErrVol
		}
		return content, api.OK
	}
}

// readerAt reads the contents of a checkpoint's files. A number that the checkpoint does not keep, or that was read already, is refused: of a right volume none is, but what was found on a disk may say anything, and such a number's block could be given away.
func (v *Volume) readerAt(cp uint64) func(uint32) (string, api.Errno) {
	read, dats := v.reader(), v.now.dats
	met := make(map[uint32]struct{})
	return func(vbn uint32) (string, api.Errno) {
		_, again := met[vbn]
		if vbn != 0 && (again || !keeps(dats, vbn, cp)) {
			return "", api.ErrVol
		}
		met[vbn] = struct{}{}
		return read(vbn)
	}
}

// keeps tells whether a checkpoint keeps what a number stands for.
func keeps(dats []api.Trans, vbn uint32, cp uint64) bool {
	if int64(vbn) >= int64(len(dats)) {
		return false
	}
	t := dats[vbn]
	return t.Start <= cp && dat.Lives(t, []uint64{cp})
}

// readFiles reads what a checkpoint's root speaks of: its files, and where they stand.
func readFiles(said string, read func(uint32) (string, api.Errno)) (state, api.Errno) {
	n, err := inode.Decode(said)
	if err != api.OK {
		return state{}, api.ErrVol
	}
	contents, ifile, err := readContents(n, read)
	if err != api.OK {
		return state{}, err
	}
	inodes, err := vol.Inodes(contents)
	if err != api.OK {
		return state{}, err
	}
	s := state{table: strings.Join(contents, ""), ifile: ifile}
	for _, n := range inodes {
		file, stands, err := readFile(n, read)
		if err != api.OK {
			return state{}, err
		}
		s.files, s.places = append(s.files, file), append(s.places, stands)
	}
	s.files = vol.Trim(s.files)
	if !isTable(n, inodes[:len(s.files)]) || !plain.Right(s.files) {
		return state{}, api.ErrVol
	}
	s.places = s.places[:len(s.files)]
	return s, api.OK
}

// isTable tells whether n is the inode of a file of inodes, of these.
func isTable(n api.Inode, l []api.Inode) bool {
	contents, err := vol.Table(l)
	if err != api.OK {
		return false
	}
	made, err := vol.Inode(api.Node{Kind: api.File, Data: strings.Join(contents, "")}, n.Map)
	return err == api.OK && made == n
}

// readFile reads an inode's file, and where it stands.
func readFile(n api.Inode, read func(uint32) (string, api.Errno)) (api.Node, place, api.Errno) {
	contents, stands, err := readContents(n, read)
	if err != api.OK {
		return api.Node{}, place{}, err
	}
	data, err := vol.Paste(contents, n.Size)
	if err != api.OK {
		return api.Node{}, place{}, err
	}
	file, err := vol.Node(n, data)
	if err != api.OK {
		return api.Node{}, place{}, err
	}
	return file, stands, api.OK
}

// readContents reads the contents of an inode's file, and where it stands.
func readContents(n api.Inode, read func(uint32) (string, api.Errno)) ([]string, place, api.Errno) {
	if n.Size > api.MaxFile { // more than any file of a volume has
		return nil, place{}, api.ErrVol
	}
	ids, blocks, err := readMap(n, read)
	if err != api.OK {
		return nil, place{}, err
	}
	vbns, err := bmap.Join(n.Size, n.Map, blocks)
	if err != api.OK {
		return nil, place{}, api.ErrVol
	}
	contents, err := readAll(vbns, read)
	if err != api.OK {
		return nil, place{}, err
	}
	return contents, place{vbns, ids, n.Map}, api.OK
}

// readMap reads the blocks of an inode's map, and their numbers.
func readMap(n api.Inode, read func(uint32) (string, api.Errno)) ([]uint32, []string, api.Errno) {
	count := bmap.Count(n.Size)
	if count == 0 {
		return nil, nil, api.OK
	}
	ids := []uint32{n.Map[0]}
	blocks, err := readAll(ids, read)
	if err != api.OK || count == 1 {
		return ids, blocks, err
	}
	below, err := bmap.Below(n.Size, blocks[0])
	if err != api.OK {
		return nil, nil, api.ErrVol
	}
	lower, err := readAll(below, read)
	if err != api.OK {
		return nil, nil, err
	}
	return append(ids, below...), append(blocks, lower...), api.OK
}

func readAll(vbns []uint32, read func(uint32) (string, api.Errno)) ([]string, api.Errno) {
	contents := make([]string, len(vbns))
	for i, vbn := range vbns {
		content, err := read(vbn)
		if err != api.OK {
			return nil, err
		}
		contents[i] = content
	}
	return contents, api.OK
}

// entries are what the records of a segment say of its blocks, by the blocks' places.
func (v *Volume) entries(segment int) map[int]api.Entry {
	said := make(map[int]api.Entry)
	end := (segment + 1) * api.Segment
	for at := segment * api.Segment; at < end; {
		b, err := v.d.Read(at)
		if err != api.OK {
			return said
		}
		r, err := record.Decode(b)
		if err != api.OK {
			return said
		}
		for i, e := range r.L {
			said[at+1+i] = e
		}
		at += 1 + len(r.L)
	}
	return said
}
