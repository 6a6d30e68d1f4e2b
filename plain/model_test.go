package plain_test

import (
	"slices"
	"strings"

	"nautilus/api"
)

// thing is a file of the model: it knows its names' owners as they are, not by numbers.
type thing struct {
	kind int
	mode uint16
	time uint64
	data string
	has  []entry // a directory's, in the order in which they were put
}

type entry struct {
	name string
	of   *thing
}

// world are the model's files by their numbers; nil is none.
type world struct {
	places []*thing
}

func newWorld() *world {
	return &world{places: []*thing{nil, nil, {kind: 2, mode: 493}}}
}

// nodes are the model's files as the chapter has them, a directory's bytes put by hand.
func (w *world) nodes() []api.Node {
	var l []api.Node
	for _, x := range w.places {
		if x == nil {
			l = append(l, api.Node{})
			continue
		}
		n := api.Node{Kind: x.kind, Mode: x.mode, Links: w.links(x), Time: x.time, Data: x.data}
		for _, e := range x.has {
			n.Data += bytesOf(e.name, uint32(slices.Index(w.places, e.of)))
		}
		l = append(l, n)
	}
	return l
}

// bytesOf are those of a name in a directory.
func bytesOf(name string, ino uint32) string {
	return string([]byte{byte(ino), byte(ino >> 8), byte(ino >> 16), byte(ino >> 24), byte(len(name)), byte(len(name) >> 8)}) + name
}

func (w *world) links(x *thing) uint16 {
	if x == w.places[2] {
		return 1
	}
	n := uint16(0)
	for _, d := range w.places {
		if d == nil {
			continue
		}
		for _, e := range d.has {
			if e.of == x {
				n++
			}
		}
	}
	return n
}

func (x *thing) find(name string) *thing {
	for _, e := range x.has {
		if e.name == name {
			return e.of
		}
	}
	return nil
}

func (x *thing) size() int {
	size := len(x.data)
	for _, e := range x.has {
		size += 6 + len(e.name)
	}
	return size
}

// holds tells whether a directory is the other one, or that is below it.
func (x *thing) holds(y *thing) bool {
	if x == y {
		return true
	}
	for _, e := range x.has {
		if e.of.holds(y) {
			return true
		}
	}
	return false
}

// place is what the model finds along a path.
type place struct {
	in   *thing
	name string
	of   *thing
}

// partsOf are a path's parts; false, if it is none.
func partsOf(s string) ([]string, bool) {
	if !strings.HasPrefix(s, "/") || len(s) > 1000 {
		return nil, false
	}
	var out []string
	for _, piece := range strings.Split(s[1:], "/") {
		switch {
		case piece == "" || piece == ".":
		case piece == "..":
			if len(out) > 0 {
				out = out[:len(out)-1]
			}
		case len(piece) > 59 || strings.Contains(piece, "\x00"):
			return nil, false
		default:
			out = append(out, piece)
		}
	}
	return out, len(out) <= 40
}

func (w *world) walk(s string, follow bool) (place, api.Errno) {
	parts, ok := partsOf(s)
	if !ok {
		return place{}, 120
	}
	return w.walkParts(parts, follow, 0)
}

// walkParts calls itself behind each link, with the parts from the root on.
func (w *world) walkParts(parts []string, follow bool, links int) (place, api.Errno) {
	at := place{of: w.places[2]}
	for k, part := range parts {
		if at.of.kind != 2 {
			return place{}, 140
		}
		at = place{in: at.of, name: part, of: at.of.find(part)}
		rest := parts[k+1:]
		switch {
		case at.of == nil && len(rest) > 0:
			return place{}, 112
		case at.of == nil:
			return at, 0
		case at.of.kind == 3 && (follow || len(rest) > 0):
			if links == 8 {
				return place{}, 143
			}
			said := at.of.data
			if said[0] != '/' {
				said = "/" + strings.Join(parts[:k], "/") + "/" + said
			}
			more, ok := partsOf(said)
			if !ok || len(more)+len(rest) > 40 {
				return place{}, 120
			}
			return w.walkParts(slices.Concat(more, rest), follow, links+1)
		}
	}
	return at, 0
}

func (w *world) find(s string) (uint32, api.Errno) {
	at, err := w.walk(s, true)
	switch {
	case err != 0:
		return 0, err
	case at.of == nil:
		return 0, 112
	}
	return uint32(slices.Index(w.places, at.of)), 0
}

// do is what a call does with the model's files.
func (w *world) do(c api.Call, now uint64) api.Reply {
	if now >= 1<<48 {
		return api.Reply{Code: 2}
	}
	switch c.Op {
	case api.OpCreate, api.OpMkdir, api.OpSymlink:
		return api.Reply{Code: w.makeNew(c, now)}
	case api.OpWrite, api.OpTrunc, api.OpChmod, api.OpTouch:
		return api.Reply{Code: w.alter(c, now)}
	case api.OpUnlink, api.OpRmdir:
		return api.Reply{Code: w.remove(c, now)}
	case api.OpLink:
		return api.Reply{Code: w.link(c, now)}
	case api.OpRename:
		return api.Reply{Code: w.rename(c, now)}
	case api.OpRead, api.OpReadlink, api.OpStat, api.OpList:
		return w.ask(c)
	}
	return api.Reply{Code: 2}
}

func (w *world) makeNew(c api.Call, now uint64) api.Errno {
	x := &thing{kind: 1, mode: uint16(c.Mode), time: now}
	if c.Op == api.OpMkdir {
		x.kind = 2
	}
	if c.Op == api.OpSymlink {
		x = &thing{kind: 3, mode: 511, time: now, data: c.Data}
		if len(c.Data) < 1 || len(c.Data) > 500 || strings.Contains(c.Data, "\x00") {
			return 2
		}
	} else if c.Mode < 0 || c.Mode > 4095 {
		return 2
	}
	at, err := w.walk(c.Path, c.Op == api.OpCreate)
	if err != 0 {
		return err
	}
	if at.of != nil {
		return 113
	}
	ino := 3
	for ino < len(w.places) && w.places[ino] != nil {
		ino++
	}
	if ino == 240 {
		return 145
	}
	if err := at.put(x, now); err != 0 {
		return err
	}
	if ino == len(w.places) {
		w.places = append(w.places, nil)
	}
	w.places[ino] = x
	return 0
}

func (p place) put(x *thing, now uint64) api.Errno {
	if p.in.size()+6+len(p.name) > 20000 {
		return 114
	}
	p.in.has = append(p.in.has, entry{p.name, x})
	p.in.time = now
	return 0
}

func (p place) take(now uint64) {
	p.in.has = slices.DeleteFunc(p.in.has, func(e entry) bool { return e.name == p.name })
	p.in.time = now
}

// lost is said behind a file's loss of a name.
func (w *world) lost(x *thing, now uint64) {
	x.time = now
	if w.links(x) == 0 {
		w.places[slices.Index(w.places, x)] = nil
	}
}

func (w *world) alter(c api.Call, now uint64) api.Errno {
	wrong := map[int]bool{api.OpWrite: c.Off < 0, api.OpTrunc: c.N < 0, api.OpChmod: c.Mode < 0 || c.Mode > 4095, api.OpTouch: c.N < 0 || c.N > 1<<48-1}
	if wrong[c.Op] {
		return 2
	}
	at, err := w.walk(c.Path, true)
	switch {
	case err != 0:
		return err
	case at.of == nil:
		return 112
	case c.Op == api.OpChmod:
		at.of.mode = uint16(c.Mode)
		return 0
	case c.Op == api.OpTouch:
		at.of.time = uint64(c.N)
		return 0
	case at.of.kind == 2:
		return 141
	}
	return at.of.rewrite(c, now)
}

// rewrite does a write, or a trunc, byte by byte.
func (x *thing) rewrite(c api.Call, now uint64) api.Errno {
	size := c.N
	if c.Op == api.OpWrite {
		if c.Off > 200000 || int(c.Off)+len(c.Data) > 200000 {
			return 144
		}
		if len(c.Data) == 0 {
			return 0
		}
		size = max(int64(len(x.data)), c.Off+int64(len(c.Data)))
	}
	if size > 200000 {
		return 144
	}
	all := make([]byte, size)
	copy(all, x.data)
	if c.Op == api.OpWrite {
		copy(all[c.Off:], c.Data)
	}
	x.data, x.time = string(all), now
	return 0
}

func (w *world) remove(c api.Call, now uint64) api.Errno {
	at, err := w.walk(c.Path, false)
	switch {
	case err != 0:
		return err
	case at.of == nil:
		return 112
	case c.Op == api.OpUnlink && at.of.kind == 2:
		return 141
	case c.Op == api.OpRmdir && at.of.kind != 2:
		return 140
	case c.Op == api.OpRmdir && at.of == w.places[2]:
		return 2
	case len(at.of.has) > 0:
		return 142
	}
	at.take(now)
	w.lost(at.of, now)
	return 0
}

func (w *world) link(c api.Call, now uint64) api.Errno {
	at, err := w.walk(c.Path, false)
	switch {
	case err != 0:
		return err
	case at.of == nil:
		return 112
	case at.of.kind == 2:
		return 141
	}
	to, err := w.walk(c.To, false)
	switch {
	case err != 0:
		return err
	case to.of != nil:
		return 113
	case w.links(at.of) == 1000:
		return 146
	}
	if err := to.put(at.of, now); err != 0 {
		return err
	}
	at.of.time = now
	return 0
}

func (w *world) rename(c api.Call, now uint64) api.Errno {
	at, err := w.walk(c.Path, false)
	switch {
	case err != 0:
		return err
	case at.of == nil:
		return 112
	case at.of == w.places[2]:
		return 2
	}
	to, err := w.walk(c.To, false)
	isDir := at.of.kind == 2
	switch {
	case err != 0:
		return err
	case to.of == w.places[2]:
		return 113
	case to.of == at.of:
		return 0
	case isDir && at.of.holds(to.in):
		return 147
	case to.of != nil && isDir && to.of.kind != 2:
		return 140
	case to.of != nil && isDir && len(to.of.has) > 0:
		return 142
	case to.of != nil && !isDir && to.of.kind == 2:
		return 141
	}
	return w.move(at, to, now)
}

func (w *world) move(at place, to place, now uint64) api.Errno {
	if to.of == nil {
		if to.in != at.in && to.in.size()+6+len(to.name) > 20000 || to.in == at.in && to.in.size()-len(at.name)+len(to.name) > 20000 {
			return 114
		}
		at.take(now)
		return to.put(at.of, now)
	}
	at.take(now)
	for k, e := range to.in.has {
		if e.name == to.name {
			to.in.has[k].of = at.of
		}
	}
	to.in.time = now
	w.lost(to.of, now)
	return 0
}

func (w *world) ask(c api.Call) api.Reply {
	if c.Op == api.OpRead && (c.Off < 0 || c.N < 0) {
		return api.Reply{Code: 2}
	}
	at, err := w.walk(c.Path, c.Op == api.OpRead || c.Op == api.OpList)
	switch {
	case err != 0:
		return api.Reply{Code: err}
	case at.of == nil:
		return api.Reply{Code: 112}
	}
	x := at.of
	switch {
	case c.Op == api.OpStat:
		return api.Reply{Stat: api.Stat{Kind: x.kind, Mode: x.mode, Links: w.links(x), Size: x.size(), Time: x.time}}
	case c.Op == api.OpReadlink && x.kind == 3:
		return api.Reply{Data: x.data}
	case c.Op == api.OpReadlink:
		return api.Reply{Code: 2}
	case c.Op == api.OpRead && x.kind == 2:
		return api.Reply{Code: 141}
	case c.Op == api.OpList && x.kind != 2:
		return api.Reply{Code: 140}
	case c.Op == api.OpList:
		return api.Reply{Names: w.list(x)}
	}
	told := ""
	for at := c.Off; at < int64(len(x.data)) && at-c.Off < c.N; at++ {
		told += x.data[at : at+1]
	}
	return api.Reply{Data: told}
}

func (w *world) list(x *thing) []api.Name {
	var l []api.Name
	for _, e := range x.has {
		at := 0
		for at < len(l) && l[at].Name < e.name {
			at++
		}
		l = slices.Insert(l, at, api.Name{Name: e.name, Ino: uint32(slices.Index(w.places, e.of))})
	}
	return l
}

// rightByWords tells whether files are right, word by word of the chapter, each by itself.
func rightByWords(l []api.Node) bool {
	if len(l) < 3 || len(l) > 240 || l[0] != (api.Node{}) || l[1] != (api.Node{}) || l[2].Kind != 2 || l[2].Links != 1 {
		return false
	}
	names := map[uint32]int{}
	for ino, n := range l {
		if n == (api.Node{}) && ino != 2 {
			continue
		}
		switch {
		case n.Kind < 1 || n.Kind > 3 || n.Mode > 4095 || n.Time >= 1<<48 || n.Links < 1 || n.Links > 1000:
			return false
		case n.Kind == 1 && len(n.Data) > 200000:
			return false
		case n.Kind == 2 && n.Links != 1:
			return false
		case n.Kind == 3 && (len(n.Data) < 1 || len(n.Data) > 500 || strings.Contains(n.Data, "\x00")):
			return false
		}
		entries, ok := entriesOf(n)
		if !ok {
			return false
		}
		for _, of := range entries {
			if of >= uint32(len(l)) || of == 2 || l[of].Kind == 0 {
				return false
			}
			names[of]++
		}
	}
	reached := map[int]bool{2: true}
	for range l {
		for ino, n := range l {
			if !reached[ino] {
				continue
			}
			entries, _ := entriesOf(n)
			for _, of := range entries {
				reached[int(of)] = true
			}
		}
	}
	for ino, n := range l {
		if ino > 2 && n.Kind != 0 && (!reached[ino] || names[uint32(ino)] != int(n.Links)) {
			return false
		}
	}
	return true
}

// entriesOf are a directory's names, and whose they are; false, if its bytes are none's. Others have none.
func entriesOf(n api.Node) (map[string]uint32, bool) {
	l := map[string]uint32{}
	if n.Kind != 2 {
		return l, true
	}
	s := n.Data
	for s != "" {
		if len(s) < 7 {
			return nil, false
		}
		ino := uint32(s[0]) | uint32(s[1])<<8 | uint32(s[2])<<16 | uint32(s[3])<<24
		size := int(s[4]) | int(s[5])<<8
		if ino == 0 || size < 1 || size > 59 || len(s) < 6+size {
			return nil, false
		}
		name := s[6 : 6+size]
		if _, twice := l[name]; twice || name == "." || name == ".." || strings.ContainsAny(name, "/\x00") {
			return nil, false
		}
		l[name] = ino
		s = s[6+size:]
	}
	return l, len(n.Data) <= 20000
}
