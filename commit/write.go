package commit

import (
	"strings"

	"nautilus/api"
	"nautilus/disk"
	"nautilus/log"
	"nautilus/record"
	"nautilus/super"
)

// bring writes a draft, and then the super block. Only then the volume is what the draft says.
func (v *Volume) bring(w *draft) api.Errno {
	if w.err != api.OK {
		return w.err
	}
	cp, last := w.now.newest().Cp, len(w.pen.pages)-1
	return v.attempt(func() api.Errno {
		b, err := v.superOf(w.now)
		if err != api.OK {
			return err
		}
		if err := v.write(w.pen.pages, cp, true); err != api.OK {
			return err
		}
		if err := v.lay(super.Place(v.supers+1), b); err != api.OK {
			return err
		}
		v.supers++
		v.now, v.laid, v.synced = w.now, w.now.files, false
		clear(v.trail)
		v.follow(w.pen.pages[last:])
		return api.OK
	})
}

// attempt does what writes. Behind an error the log is back where it was. What was written from there on is known, to be taken back.
func (v *Volume) attempt(writes func() api.Errno) api.Errno {
	if err := v.begin(); err != api.OK {
		return err
	}
	if err := v.settle(); err != api.OK {
		return err
	}
	at, seq := v.log.At(), v.log.Seq()
	err := writes()
	if err == api.OK {
		v.undone = nil
		return api.OK
	}
	if l, wrong := log.Begin(v.d, at, seq, none); wrong == api.OK {
		v.log = l
	}
	return err
}

// superOf is the next super block, of that state's root.
func (v *Volume) superOf(s state) (string, api.Errno) {
	return super.Encode(api.Super{Blocks: v.d.Blocks(), Seq: v.supers + 1, At: s.at, Cp: s.newest().Cp})
}

// begin makes what was found stay, ahead of all else that is written: what a call left loose when the power went, and a root of which no super block speaks yet.
func (v *Volume) begin() api.Errno {
	if !v.found {
		return api.OK
	}
	if v.d.Loose() > 0 {
		if err := v.d.Flush(); err != api.OK {
			return err
		}
	}
	if v.older {
		b, err := v.superOf(v.now)
		if err != api.OK {
			return err
		}
		if err := lay(v.d, super.Place(v.supers+1), b); err != api.OK {
			return err
		}
		v.supers++
	}
	v.found, v.older = false, false
	return api.OK
}

// settle takes back what a call that was not done has left, the last block first, each flushed: else its end could be found with another beginning, or a super block without the record that it speaks of.
func (v *Volume) settle() api.Errno {
	for len(v.undone) > 0 {
		last := len(v.undone) - 1
		if err := lay(v.d, v.undone[last], blank()); err != api.OK {
			return err
		}
		v.undone = v.undone[:last]
	}
	return api.OK
}

// write writes pages, the last one of which ends a checkpoint, or else a sync.
func (v *Volume) write(pages []page, cp uint64, ends bool) api.Errno {
	for i, p := range pages {
		if err := v.log.SetNext(p.next); err != api.OK {
			return err
		}
		v.undone = append(v.undone, v.log.At())
		isLast := i == len(pages)-1
		if _, err := v.log.Write(cp, p.items, ends && isLast, !ends && isLast); err != api.OK {
			return err
		}
	}
	return api.OK
}

// lay lays a block that a call may have to take back.
func (v *Volume) lay(at int, b string) api.Errno {
	v.undone = append(v.undone, at)
	return lay(v.d, at, b)
}

// follow keeps the blocks of records that were written, as long as they must be found.
func (v *Volume) follow(pages []page) {
	for _, p := range pages {
		for block := p.at; block <= p.at+len(p.items); block++ {
			v.trail[block] = struct{}{}
		}
	}
}

// wipe takes what a disk had away: the super blocks, and then all records, for a new log could go on to one of them.
func wipe(d *disk.Disk) api.Errno {
	for at := range supers() {
		if err := lay(d, at, blank()); err != api.OK {
			return err
		}
	}
	for at := firstBlock; at < d.Blocks(); at++ {
		b, _ := d.Read(at)
		if _, err := record.Decode(b); err != api.OK {
			continue
		}
		if err := d.Write(at, blank()); err != api.OK {
			return err
		}
	}
	return d.Flush()
}

// lay writes a block, and flushes it.
func lay(d *disk.Disk, at int, b string) api.Errno {
	if err := d.Write(at, b); err != api.OK {
		return err
	}
	return d.Flush()
}

// blank is a block that is neither a super block nor of a record.
func blank() string {
	return strings.Repeat("\x00", api.Block)
}
