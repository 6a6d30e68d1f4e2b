package plain

import (
	"slices"

	"nautilus/api"
	"nautilus/dirs"
	"nautilus/path"
)

// spot is what a path leads to: a name in a directory, whose it is (0: nobody's), and the parts from the root on, none of which is a link ahead of the last one. The root is at no place, so no directory has it.
type spot struct {
	dir   uint32
	name  string
	ino   uint32
	parts []string
}

// along goes along a path through right files.
func along(l []api.Node, s string, follow bool) (spot, api.Errno) {
	left, err := path.Split(s)
	if err != api.OK {
		return spot{}, err
	}
	at, hops := root(), 0
way:
	for len(left) > 0 {
		next, err := step(l, at, left[0])
		last := len(left) == 1
		switch {
		case err != api.OK:
			return spot{}, err
		case next.ino == 0 && !last:
			return spot{}, api.ErrNone
		case l[next.ino].Kind == api.Link && (follow || !last):
			hops++
			if left, err = turn(at, l[next.ino].Data, left[1:], hops); err != api.OK {
				return spot{}, err
			}
			at = root()
			continue way
		}
		at, left = next, left[1:]
	}
	return at, api.OK
}

// root is where all ways begin.
func root() spot {
	return spot{ino: api.RootIno}
}

// step is a directory's part. It drops dirs.Find's error, for a part is a name, and what is not there has the number 0.
func step(l []api.Node, at spot, part string) (spot, api.Errno) {
	n := l[at.ino]
	if n.Kind != api.Dir {
		return spot{}, api.ErrNotDir
	}
	ino, _ := dirs.Find(n.Data, part)
	return spot{dir: at.ino, name: part, ino: ino, parts: append(at.parts, part)}, api.OK
}

// turn are the parts, from the root on, that are gone along behind a link in the directory at: what it says, and what is left.
func turn(at spot, target string, left []string, hops int) ([]string, api.Errno) {
	if hops > api.MaxHops {
		return nil, api.ErrLoop
	}
	parts, err := path.Under(at.parts, target)
	if err != api.OK {
		return nil, err
	}
	if len(parts)+len(left) > api.MaxParts {
		return nil, api.ErrPath
	}
	return slices.Concat(parts, left), api.OK
}
