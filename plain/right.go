package plain

import (
	"iter"
	"strings"

	"nautilus/api"
	"nautilus/dirs"
)

// Right tells whether files are. What is not reached from the root has no names there, so it is found by their count.
func Right(l []api.Node) bool {
	if len(l) < firstNew || len(l) > api.MaxInos || !isNone(l[0]) || !isNone(l[1]) || !isRoot(l[api.RootIno]) {
		return false
	}
	names, right := counted(l)
nodes:
	for ino, n := range nodesOf(l) {
		switch {
		case !right:
			break nodes
		case isNone(n):
			continue nodes
		}
		right = isNode(n) && names[ino] == int(n.Links)
	}
	return right
}

// counted is how many names each node has in the directories that are reached from the root; false, if one of these is none, or has a name that may not be.
func counted(l []api.Node) (map[uint32]int, bool) {
	names := make(map[uint32]int)
	ways := []uint32{api.RootIno}
	for len(ways) > 0 {
		last := len(ways) - 1
		dir := ways[last]
		ways = ways[:last]
		list, err := dirs.List(l[dir].Data)
		if err != api.OK {
			return nil, false
		}
		for _, named := range list {
			ino := named.Ino
			if ino < firstNew || ino >= uint32(len(l)) || isNone(l[ino]) {
				return nil, false
			}
			names[ino]++
			if names[ino] == 1 && l[ino].Kind == api.Dir { // once alone, for directories may stand in a ring
				ways = append(ways, ino)
			}
		}
	}
	return names, true
}

// nodesOf goes through all places that new files may have, each with its number, those of none, too.
func nodesOf(l []api.Node) iter.Seq2[uint32, api.Node] {
	return func(yield func(uint32, api.Node) bool) {
		for ino := uint32(firstNew); ino < uint32(len(l)); ino++ {
			if !yield(ino, l[ino]) {
				return
			}
		}
	}
}

// free is the lowest number that a new file may have; the one behind all places, if each is in use.
func free(l []api.Node) uint32 {
	lowest := uint32(len(l))
search:
	for ino, n := range nodesOf(l) {
		if isNone(n) {
			lowest = ino
			break search
		}
	}
	return lowest
}

func isNone(n api.Node) bool {
	return n == api.Node{}
}

func isRoot(n api.Node) bool {
	return n.Kind == api.Dir && isNode(n)
}

// isNode tells whether a node may be, whatever names it has. A directory's bytes are asked where its names are counted.
func isNode(n api.Node) bool {
	if n.Mode > api.MaxMode || n.Time >= api.MaxNumber || n.Links < 1 || n.Links > api.MaxLinks {
		return false
	}
	switch n.Kind {
	case api.File:
		return len(n.Data) <= api.MaxFile
	case api.Dir:
		return n.Links == 1
	case api.Link:
		return isTarget(n.Data)
	}
	return false
}

// isTarget tells whether a link may say that.
func isTarget(s string) bool {
	return len(s) >= 1 && len(s) <= api.MaxTarget && strings.IndexByte(s, 0) < 0
}
