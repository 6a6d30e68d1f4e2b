package commit

import (
	"maps"
	"slices"

	"nautilus/api"
	"nautilus/disk"
	"nautilus/log"
	"nautilus/plain"
)

// Found is what was found on a disk of a volume, from which it goes on.
type Found struct {
	Super  api.Super // the newest super block
	Root   api.Root  // the newest root, of which the super block need not speak yet
	At     int       // the root's block
	Dats   []api.Trans
	Checks []api.Check
	Log    *log.Log         // goes on behind the last record of a call that was done
	Trail  map[int]struct{} // the blocks of the records from the root's one up to that
	Undone []int            // the blocks, in order, of the records behind it

	// Synced lays what was synced since over the newest checkpoint's files. It is nil, if nothing was.
	Synced func(files []api.Node) []api.Node
}

// Resume is a volume that was found on a disk: what package mount has read, and the files.
func Resume(d *disk.Disk, f Found) (*Volume, api.Errno) {
	if d.Blocks() == 0 || f.Log == nil {
		return nil, api.ErrNil
	}
	v := &Volume{d: d, log: f.Log, supers: f.Super.Seq, trail: make(map[int]struct{}), undone: slices.Clone(f.Undone), found: true, older: f.Super.At != f.At}
	maps.Copy(v.trail, f.Trail)
	v.now = state{dats: slices.Clone(f.Dats), checks: slices.Clone(f.Checks)}
	newest := v.now.newest()
	s, err := readFiles(newest.Root, v.readerAt(newest.Cp))
	if err != api.OK {
		return nil, err
	}
	s.dats, s.checks, s.at = v.now.dats, v.now.checks, f.At
	s.root = api.Root{Cp: f.Root.Cp, Tick: f.Root.Tick, Dats: slices.Clone(f.Root.Dats), Cps: slices.Clone(f.Root.Cps)}
	v.now, v.files, v.laid = s, s.files, s.files
	if f.Synced == nil {
		return v, api.OK
	}
	l := f.Synced(own(v.files))
	if !areSame(l, s.files) || !plain.Right(l) {
		return nil, api.ErrVol // they could not have been synced
	}
	v.files = own(l)
	v.laid, v.synced = v.files, true
	return v, api.OK
}
