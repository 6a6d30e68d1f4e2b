package commit

import (
	"iter"
	"maps"
	"slices"

	"nautilus/api"
)

// place is where a file stands: the virtual numbers of its blocks, 0 for a hole, those of its map's blocks, and what its inode has of the map.
type place struct {
	vbns []uint32
	ids  []uint32
	m    [6]uint32
}

// state is what a root says: the tables, without places that do not live, where their blocks and the root lie, and the newest checkpoint's files, trimmed.
type state struct {
	dats   []api.Trans
	checks []api.Check
	root   api.Root
	at     int
	files  []api.Node
	places []place // of the files, by their numbers
	table  string  // the bytes of the file of inodes
	ifile  place
}

// emptyState is that of no checkpoint.
func emptyState() state {
	return state{dats: make([]api.Trans, 1)}
}

// newest is the newest checkpoint, an empty one, if there is none.
func (s state) newest() api.Check {
	if len(s.checks) == 0 {
		return api.Check{}
	}
	return s.checks[len(s.checks)-1]
}

// live counts, segment by segment, the blocks that live, those of a trail, too. The super blocks are in the first one.
func (s state) live(blocks int, trail map[int]struct{}) []int {
	counts := make([]int, blocks/api.Segment)
	met := make([]bool, blocks)
	for _, some := range []iter.Seq[int]{supers(), s.blocks(), maps.Keys(trail)} {
		for at := range some {
			if at < blocks && !met[at] {
				met[at] = true
				counts[at/api.Segment]++
			}
		}
	}
	return counts
}

// blocks goes through the blocks that live by a state.
func (s state) blocks() iter.Seq[int] {
	return func(yield func(int) bool) {
		for _, t := range s.dats {
			if !isFree(t) && !yield(int(t.Phys)) {
				return
			}
		}
		for _, table := range [][]uint32{s.root.Dats, s.root.Cps} {
			for _, at := range table {
				if !yield(int(at)) {
					return
				}
			}
		}
		yield(s.at)
	}
}

func supers() iter.Seq[int] {
	return slices.Values([]int{api.SuperOne, api.SuperTwo})
}

// segments are a disk's, by how many blocks live in each, the block where the log goes on, and the segment that comes next. One in which something lives does not come next, though a call that was not done may have left it so.
func segments(live []int, at int, next int) []api.Seg {
	l := make([]api.Seg, len(live))
	for i, count := range live {
		l[i] = api.Seg{Live: count, State: api.Dirty}
		switch {
		case i == 0:
		case i == at/api.Segment, i == next && count == 0:
			l[i].State = api.Active
		case count == 0:
			l[i].State = api.Clean
		}
	}
	return l
}

func isFree(t api.Trans) bool {
	return t == api.Trans{}
}
