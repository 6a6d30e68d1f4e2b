package mount

import (
	"iter"
	"slices"

	"nautilus/api"
	"nautilus/num"
	"nautilus/vol"
)

// withSyncs are a checkpoint's files with what was synced since, as records have it; none, if these are not of syncs of such files.
func withSyncs(files []api.Node, syncs []api.Found) []api.Node {
	l := slices.Clone(files)
	for items := range calls(syncs) {
		ino, ok := fileOf(items)
		if !ok || uint64(ino) >= uint64(len(l)) || l[ino].Kind != api.File {
			return nil
		}
		n, ok := laidOver(l[ino], items)
		if !ok {
			return nil
		}
		l[ino] = n
	}
	return l
}

// calls goes through what each call laid down, in one record or more, the last one of which Syncs.
func calls(syncs []api.Found) iter.Seq[[]api.Item] {
	return func(yield func([]api.Item) bool) {
		var items []api.Item
	records:
		for _, one := range syncs {
			for i, e := range one.R.L {
				items = append(items, api.Item{E: e, Content: one.Contents[i]})
			}
			if !one.R.Sync {
				continue records
			}
			if !yield(items) {
				return
			}
			items = nil
		}
	}
}

// fileOf is the number of the file that a call synced, if its items are those of one: numbered, and its inode behind its contents.
func fileOf(items []api.Item) (uint32, bool) {
	last := len(items) - 1
	ino := items[last].E.Index
	for i, item := range items {
		file := ino
		if i == last {
			file = api.IfileNo
		}
		if item.E.Kind != api.KData || item.E.File != file || uint64(item.E.Vbn) != uint64(i+1) {
			return 0, false
		}
	}
	return ino, true
}

// laidOver is the file that a call's items make of what it was: another one in what is in it, and its time, alone.
func laidOver(was api.Node, items []api.Item) (api.Node, bool) {
	last := len(items) - 1
	inodes, err := vol.Inodes([]string{items[last].Content})
	if err != api.OK || !num.Bare(items[last].Content, api.RootSize) {
		return api.Node{}, false
	}
	data, ok := dataOver(was.Data, inodes[0].Size, items[:last])
	if !ok {
		return api.Node{}, false
	}
	n, err := vol.Node(inodes[0], data)
	was.Data, was.Time = n.Data, n.Time
	return n, err == api.OK && n == was
}

// dataOver are the bytes of a file of that size: what it was, cut or made longer by bytes 0, and contents, each copied to its place.
func dataOver(was string, size uint32, items []api.Item) (string, bool) {
	if size > api.MaxFile {
		return "", false
	}
	blocks := (int64(size) + api.Content - 1) / api.Content
	data := make([]byte, blocks*api.Content)
	copy(data, was[:min(len(was), int(size))])
	ahead := int64(-1)
	for _, item := range items {
		at := int64(item.E.Index)
		if at <= ahead || at >= blocks {
			return "", false
		}
		copy(data[at*api.Content:], item.Content)
		ahead = at
	}
	if !num.Bare(string(data), int(size)) {
		return "", false
	}
	return string(data[:size]), true
}
