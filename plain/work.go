package plain

import (
	"strings"

	"nautilus/api"
	"nautilus/dirs"
	"nautilus/path"
)

const linkMode = 511

// work is a copy of right files, which a call changes, and the time that it writes. Behind an error the copy is of no use.
type work struct {
	l   []api.Node
	now uint64
}

// do does a call with what its path leads to, which suits it.
func (w *work) do(at spot, c api.Call) api.Errno {
	switch c.Op {
	case api.OpCreate:
		return w.create(at, api.Node{Kind: api.File, Mode: uint16(c.Mode)})
	case api.OpMkdir:
		return w.create(at, api.Node{Kind: api.Dir, Mode: uint16(c.Mode)})
	case api.OpSymlink:
		return w.create(at, api.Node{Kind: api.Link, Mode: linkMode, Data: c.Data})
	case api.OpWrite:
		return w.write(at.ino, c.Off, c.Data)
	case api.OpTrunc:
		return w.trunc(at.ino, c.N)
	case api.OpUnlink:
		w.drop(at)
		w.lose(at.ino)
	case api.OpRmdir:
		return w.rmdir(at)
	case api.OpRename:
		return w.rename(at, c.To)
	case api.OpLink:
		return w.link(at.ino, c.To)
	case api.OpChmod:
		w.l[at.ino].Mode = uint16(c.Mode)
	case api.OpTouch:
		w.l[at.ino].Time = uint64(c.N)
	}
	return api.OK
}

// create puts a new file of one name at a place of none.
func (w *work) create(at spot, n api.Node) api.Errno {
	ino := free(w.l)
	if ino == api.MaxInos {
		return api.ErrMany
	}
	if err := w.put(at, ino); err != api.OK {
		return err
	}
	if ino == uint32(len(w.l)) {
		w.l = append(w.l, api.Node{})
	}
	n.Links, n.Time = 1, w.now
	w.l[ino] = n
	return api.OK
}

func (w *work) write(ino uint32, off int64, data string) api.Errno {
	switch {
	case off > int64(api.MaxFile-len(data)):
		return api.ErrBig
	case data == "":
		return api.OK
	}
	w.change(ino, func(n *api.Node) {
		behind := piece(n.Data, off+int64(len(data)), api.MaxFile)
		n.Data = sized(n.Data, int(off)) + data + behind
	})
	return api.OK
}

func (w *work) trunc(ino uint32, count int64) api.Errno {
	if count > api.MaxFile {
		return api.ErrBig
	}
	w.change(ino, func(n *api.Node) { n.Data = sized(n.Data, int(count)) })
	return api.OK
}

func (w *work) rmdir(at spot) api.Errno {
	switch {
	case at.ino == api.RootIno:
		return api.ErrArg
	case w.l[at.ino].Data != "":
		return api.ErrNotEmpty
	}
	w.drop(at)
	w.lose(at.ino)
	return api.OK
}

func (w *work) link(ino uint32, place string) api.Errno {
	to, err := along(w.l, place, false)
	switch {
	case err != api.OK:
		return err
	case to.ino != 0:
		return api.ErrThere
	case w.l[ino].Links == api.MaxLinks:
		return api.ErrLinks
	}
	w.change(ino, func(n *api.Node) { n.Links++ })
	return w.put(to, ino)
}

func (w *work) rename(from spot, place string) api.Errno {
	if from.ino == api.RootIno {
		return api.ErrArg
	}
	to, err := along(w.l, place, false)
	switch {
	case err != api.OK:
		return err
	case to.ino == api.RootIno:
		return api.ErrThere
	case to.ino == from.ino:
		return api.OK
	}
	if err := w.moves(from, to); err != api.OK {
		return err
	}
	w.drop(from)
	if to.ino == 0 {
		return w.put(to, from.ino)
	}
	w.lose(to.ino)
	w.hand(to, from.ino)
	return api.OK
}

// moves is the error of a move of a file to the place of none, or of another one.
func (w *work) moves(from spot, to spot) api.Errno {
	isDir := w.l[from.ino].Kind == api.Dir
	there := w.l[to.ino]
	switch {
	case isDir && path.Within(from.parts, to.parts):
		return api.ErrInto
	case to.ino == 0:
		return api.OK
	case isDir && there.Kind != api.Dir:
		return api.ErrNotDir
	case isDir && there.Data != "":
		return api.ErrNotEmpty
	case !isDir && there.Kind == api.Dir:
		return api.ErrIsDir
	}
	return api.OK
}

// put gives a name to a file, at a place of none.
func (w *work) put(at spot, ino uint32) api.Errno {
	err := api.OK
	w.change(at.dir, func(n *api.Node) { n.Data, err = dirs.Add(n.Data, at.name, ino) })
	return err
}

// drop takes a name away. It drops the error, for the name is there.
func (w *work) drop(at spot) {
	w.change(at.dir, func(n *api.Node) { n.Data, _ = dirs.Drop(n.Data, at.name) })
}

// hand makes a name another file's, where it stands. It drops the error, for the name is there.
func (w *work) hand(at spot, ino uint32) {
	w.change(at.dir, func(n *api.Node) { n.Data, _ = dirs.Set(n.Data, at.name, ino) })
}

// lose takes one of its names from a file, which is none without any.
func (w *work) lose(ino uint32) {
	w.change(ino, func(n *api.Node) { n.Links-- })
	if w.l[ino].Links == 0 {
		w.l[ino] = api.Node{}
	}
}

// change does something with a file, and writes when.
func (w *work) change(ino uint32, how func(n *api.Node)) {
	how(&w.l[ino])
	w.l[ino].Time = w.now
}

// sized is a text of so many bytes: cut, or bytes 0 behind it.
func sized(s string, count int) string {
	return s[:min(count, len(s))] + strings.Repeat("\x00", max(count-len(s), 0))
}
