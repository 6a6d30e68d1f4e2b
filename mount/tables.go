package mount

import (
	"slices"

	"nautilus/api"
	"nautilus/bag"
	"nautilus/commit"
	"nautilus/cps"
	"nautilus/dat"
	"nautilus/disk"
	"nautilus/record"
	"nautilus/root"
)

// readTables reads the root, which is the last block of a record, and the tables that it speaks of; false, if they are not those of a volume.
func readTables(d *disk.Disk, one api.Found, f *commit.Found) bool {
	r, err := root.Decode(one.Contents[len(one.Contents)-1])
	if err != api.OK || r.Cp != one.R.Cp {
		return false
	}
	f.Root = r
	return readChecks(d, f) && readNumbers(d, f)
}

// readChecks reads the table of checkpoints, the newest one of which is the root's.
func readChecks(d *disk.Disk, f *commit.Found) bool {
	contents, ok := contentsOf(d, f.Root.Cps)
	if !ok {
		return false
	}
	l, err := cps.Decode(contents)
	if err != api.OK || len(l) == 0 {
		return false
	}
	newest := l[len(l)-1]
	f.Checks = l
	return newest.Cp == f.Root.Cp && newest.Tick == f.Root.Tick
}

// readNumbers reads the table of virtual numbers, without those that do not live: of these a volume leaves some there.
func readNumbers(d *disk.Disk, f *commit.Found) bool {
	contents, ok := contentsOf(d, f.Root.Dats)
	if !ok {
		return false
	}
	l, err := dat.Decode(contents)
	if err != api.OK {
		return false
	}
	f.Dats, _, err = dat.Sweep(l, cps.Numbers(f.Checks))
	if err != api.OK {
		return false
	}
	_, err = dat.Counts(f.Dats, d.Blocks()/api.Segment)
	return err == api.OK && !slices.ContainsFunc(f.Dats, func(t api.Trans) bool {
		return t.Start > f.Root.Cp || t.End > f.Root.Cp // it would begin, or end, by itself
	})
}

// contentsOf are those of blocks.
func contentsOf(d *disk.Disk, blocks []uint32) ([]string, bool) {
	var contents []string
	for _, at := range blocks {
		b, err := d.Read(int(at))
		if err != api.OK {
			return nil, false
		}
		content, err := record.Unwrap(b)
		if err != api.OK {
			return nil, false
		}
		contents = append(contents, content)
	}
	return contents, true
}

// isApart tells whether each block stands for one thing alone, and none of those that are needed where the log will write: it would be written over.
func isApart(f commit.Found) bool {
	needed := bag.New[struct{}]()
	for _, t := range f.Dats {
		if t != (api.Trans{}) && needed.Put(int64(t.Phys), struct{}{}) {
			return false
		}
	}
	for _, at := range slices.Concat(f.Root.Dats, f.Root.Cps, []uint32{uint32(f.At)}) {
		if needed.Put(int64(at), struct{}{}) {
			return false
		}
	}
	for at := range f.Trail {
		needed.Put(int64(at), struct{}{}) // most are there already
	}
	at := f.Log.At()
	next, ok := needed.Next(int64(at))
	return !ok || next/api.Segment != int64(at/api.Segment)
}
