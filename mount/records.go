package mount

import (
	"iter"
	"slices"

	"nautilus/api"
	"nautilus/disk"
	"nautilus/log"
	"nautilus/record"
	"nautilus/super"
)

const firstBlock = api.Segment // the segment ahead of it has the super blocks

// trace is what records say of a volume, from the one on that its super block speaks of.
type trace struct {
	root   api.Found   // the last one that ends a checkpoint: those ahead of it say nothing any more
	syncs  []api.Found // those behind it, up to the last one that ends a sync
	undone []api.Found // those behind these, of a call that was not done
	log    *log.Log    // goes on behind those of calls that were done
}

// newestSuper is the newer super block, if it lies where one of its number does.
func newestSuper(d *disk.Disk) (api.Super, bool) {
	var blocks [2]string
	places := [2]int{api.SuperOne, api.SuperTwo}
	for i, at := range places {
		b, err := d.Read(at)
		if err != api.OK {
			return api.Super{}, false
		}
		blocks[i] = b
	}
	s, which, err := super.Newest(blocks[0], blocks[1], d.Blocks())
	return s, err == api.OK && super.Place(s.Seq) == places[which]
}

// recordsFrom goes through the records from the one on of which the super block's root is the last block.
func recordsFrom(d *disk.Disk, s api.Super) (trace, bool) {
	at, r, ok := recordAhead(d, s.At)
	if !ok || at+len(r.L) != s.At || !r.Ends || r.Cp != s.Cp {
		return trace{}, false
	}
	chain, l, err := log.Scan(d, at, r.Seq, 0)
	if err != api.OK || len(chain) == 0 {
		return trace{}, false
	}
	t := parted(chain)
	t.log, err = logBehind(d, t, l)
	return t, err == api.OK && t.isLast(d)
}

// recordAhead is the record nearest ahead of a block in its segment.
func recordAhead(d *disk.Disk, block int) (int, api.Record, bool) {
	for at, b := range blocksAhead(d, block) {
		if r, err := record.Decode(b); err == api.OK {
			return at, r, true
		}
	}
	return 0, api.Record{}, false
}

// blocksAhead goes through the blocks ahead of one in its segment, the nearest one first.
func blocksAhead(d *disk.Disk, block int) iter.Seq2[int, string] {
	return func(yield func(int, string) bool) {
		first := block / api.Segment * api.Segment
		for at := block - 1; at >= first; at-- {
			b, err := d.Read(at)
			if err != api.OK || !yield(at, b) {
				return
			}
		}
	}
}

// blocksFrom goes through a disk's blocks from one on.
func blocksFrom(d *disk.Disk, first int) iter.Seq2[int, string] {
	return func(yield func(int, string) bool) {
		for at := first; at < d.Blocks(); at++ {
			b, err := d.Read(at)
			if err != api.OK || !yield(at, b) {
				return
			}
		}
	}
}

// parted parts records, the first one of which ends a checkpoint, by the calls that wrote them.
func parted(chain []api.Found) trace {
	var t trace
	done := 0 // so many are of calls that were done
records:
	for i, one := range slices.Backward(chain) {
		if one.R.Ends || one.R.Sync {
			done = max(done, i+1)
		}
		if one.R.Ends {
			t.root, t.syncs, t.undone = one, chain[i+1:done], chain[done:]
			break records
		}
	}
	return t
}

// logBehind is the log that goes on where the records of a call that was not done begin, if there are any; else behind all.
func logBehind(d *disk.Disk, t trace, behindAll *log.Log) (*log.Log, api.Errno) {
	if len(t.undone) == 0 {
		return behindAll, api.OK
	}
	first, last := t.undone[0], t.root
	if len(t.syncs) > 0 {
		last = t.syncs[len(t.syncs)-1]
	}
	next := last.R.Next
	if first.At/api.Segment != last.At/api.Segment {
		next = 0 // the log has gone there
	}
	return log.Begin(d, first.At, first.R.Seq, next)
}

// isLast tells whether no others stand on the disk of the numbers that the log will give: it could go on to one of them.
func (t trace) isLast(d *disk.Disk) bool {
	later := 0
	for _, b := range blocksFrom(d, firstBlock) {
		if r, err := record.Decode(b); err == api.OK && r.Seq >= t.log.Seq() {
			later++
		}
	}
	return later == len(t.undone)
}

// trail are the blocks of the records of calls that were done, from the root's one on.
func (t trace) trail() map[int]struct{} {
	blocks := make(map[int]struct{})
	for _, one := range append([]api.Found{t.root}, t.syncs...) {
		for at := one.At; at <= lastBlock(one); at++ {
			blocks[at] = struct{}{}
		}
	}
	return blocks
}

// isOf tells whether what was synced was so since the checkpoint of that number.
func (t trace) isOf(cp uint64) bool {
	return !slices.ContainsFunc(t.syncs, func(one api.Found) bool { return one.R.Cp != cp })
}

// lastBlock is that of a record.
func lastBlock(one api.Found) int {
	return one.At + len(one.R.L)
}
