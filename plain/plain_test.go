package plain_test

import (
	"fmt"
	"math"
	"math/rand/v2"
	"reflect"
	"slices"
	"strings"
	"testing"
	"unsafe"

	"nautilus/api"
	"nautilus/plain"
)

const late = uint64(1<<48 - 1) // the last time that may be

func create(path string) api.Call { return api.Call{Op: api.OpCreate, Path: path, Mode: 420} }
func mkdir(path string) api.Call  { return api.Call{Op: api.OpMkdir, Path: path, Mode: 493} }
func unlink(path string) api.Call { return api.Call{Op: api.OpUnlink, Path: path} }
func rmdir(path string) api.Call  { return api.Call{Op: api.OpRmdir, Path: path} }
func stat(path string) api.Call   { return api.Call{Op: api.OpStat, Path: path} }
func list(path string) api.Call   { return api.Call{Op: api.OpList, Path: path} }
func readlink(path string) api.Call {
	return api.Call{Op: api.OpReadlink, Path: path}
}
func read(path string, off int64, n int64) api.Call {
	return api.Call{Op: api.OpRead, Path: path, Off: off, N: n}
}
func write(path string, off int64, data string) api.Call {
	return api.Call{Op: api.OpWrite, Path: path, Off: off, Data: data}
}
func trunc(path string, n int64) api.Call {
	return api.Call{Op: api.OpTrunc, Path: path, N: n}
}
func chmod(path string, mode int) api.Call {
	return api.Call{Op: api.OpChmod, Path: path, Mode: mode}
}
func touch(path string, n int64) api.Call {
	return api.Call{Op: api.OpTouch, Path: path, N: n}
}
func link(path string, to string) api.Call {
	return api.Call{Op: api.OpLink, Path: path, To: to}
}
func rename(path string, to string) api.Call {
	return api.Call{Op: api.OpRename, Path: path, To: to}
}
func symlink(path string, data string) api.Call {
	return api.Call{Op: api.OpSymlink, Path: path, Data: data}
}

// behind are the files behind calls that all are OK, the first one at the time 1.
func behind(t *testing.T, calls ...api.Call) []api.Node {
	t.Helper()
	return more(t, plain.New(), 1, calls...)
}

// more are the files behind more calls that all are OK, from a time on.
func more(t *testing.T, l []api.Node, from uint64, calls ...api.Call) []api.Node {
	t.Helper()
	for k, c := range calls {
		m, r := plain.Do(l, c, from+uint64(k))
		if !reflect.DeepEqual(r, api.Reply{}) || !plain.Right(m) {
			t.Fatalf("%.200q is answered %.200q, right: %v", fmt.Sprint(c), fmt.Sprint(r), plain.Right(m))
		}
		l = m
	}
	return l
}

// refuse holds that a call is answered that error alone, and changes nothing.
func refuse(t *testing.T, l []api.Node, c api.Call, want api.Errno) {
	t.Helper()
	m, r := plain.Do(l, c, 99)
	if r.Code != want || !reflect.DeepEqual(r, api.Reply{Code: r.Code}) {
		t.Errorf("%.200q is answered %.200q; want %d alone", fmt.Sprint(c), fmt.Sprint(r), want)
	}
	if !slices.Equal(m, l) {
		t.Errorf("%.200q is refused and changes something", fmt.Sprint(c))
	}
}

// tell is what a call that asks answers, which must be OK.
func tell(t *testing.T, l []api.Node, c api.Call) api.Reply {
	t.Helper()
	m, r := plain.Do(l, c, 99)
	if r.Code != api.OK || !slices.Equal(m, l) {
		t.Errorf("%.200q is answered %d, files as they were: %v", fmt.Sprint(c), r.Code, slices.Equal(m, l))
	}
	return r
}

func wantData(t *testing.T, l []api.Node, c api.Call, want string) {
	t.Helper()
	if r := tell(t, l, c); r.Data != want || !reflect.DeepEqual(r, api.Reply{Data: want}) {
		t.Errorf("%.200q tells %.80q; want %.80q alone", fmt.Sprint(c), r.Data, want)
	}
}

func wantNames(t *testing.T, l []api.Node, path string, want ...api.Name) {
	t.Helper()
	if r := tell(t, l, list(path)); !slices.Equal(r.Names, want) || r.Data != "" || r.Stat != (api.Stat{}) {
		t.Errorf("the names of %q are %v; want %v", path, r.Names, want)
	}
}

func wantStat(t *testing.T, l []api.Node, path string, want api.Stat) {
	t.Helper()
	if r := tell(t, l, stat(path)); r.Stat != want || r.Data != "" || len(r.Names) != 0 {
		t.Errorf("of %q is told %+v; want %+v alone", path, r, want)
	}
}

func wantNodes(t *testing.T, got []api.Node, want ...api.Node) {
	t.Helper()
	want = slices.Concat(make([]api.Node, 2), want)
	for ino := range max(len(got), len(want)) {
		if ino >= len(got) || ino >= len(want) || got[ino] != want[ino] {
			t.Fatalf("files are %.300q; want %.300q", fmt.Sprint(got), fmt.Sprint(want))
		}
	}
}

func wantFind(t *testing.T, l []api.Node, path string, want uint32, code api.Errno) {
	t.Helper()
	if got, err := plain.Find(l, path); got != want || err != code {
		t.Errorf("Find(%.80q) = %d, %d; want %d, %d", path, got, err, want, code)
	}
}

// dirOf is a directory's node, of names and numbers.
func dirOf(names ...any) api.Node {
	n := api.Node{Kind: api.Dir, Mode: 493, Links: 1}
	for k := 0; k < len(names); k += 2 {
		n.Data += bytesOf(names[k].(string), uint32(names[k+1].(int)))
	}
	return n
}

// fileOf is a file's node.
func fileOf(links uint16, data string) api.Node {
	return api.Node{Kind: api.File, Mode: 420, Links: links, Data: data}
}

// linkOf is a link's node.
func linkOf(links uint16, data string) api.Node {
	return api.Node{Kind: api.Link, Mode: 511, Links: links, Data: data}
}

// filesOf are files, of the root and those behind it.
func filesOf(nodes ...api.Node) []api.Node {
	return slices.Concat(make([]api.Node, 2), nodes)
}

// spread are files of that many names of the file 4, in directories of at most 2000 each.
func spread(count int) []api.Node {
	var l []api.Node
	for from := 0; from < count; from += 2000 {
		n := dirOf()
		for k := from; k < min(from+2000, count); k++ {
			n.Data += bytesOf(fmt.Sprintf("%04d", k%10000), 4)
		}
		l = append(l, n)
	}
	root := dirOf("d", 3)
	for k := 1; k < len(l); k++ {
		root.Data += bytesOf(fmt.Sprintf("d%d", k), uint32(4+k))
	}
	return slices.Concat(make([]api.Node, 2), []api.Node{root, l[0], fileOf(uint16(count), "x")}, l[1:])
}

// manyOf are files of that many places, all in use; from 3 on they are files in the root.
func manyOf(places int) []api.Node {
	l := filesOf(dirOf())
	for ino := 3; ino < places; ino++ {
		l[2].Data += bytesOf(fmt.Sprintf("%03d", ino), uint32(ino))
		l = append(l, fileOf(1, ""))
	}
	return l
}

// filled is a directory's bytes, of so many at most 20000, of names of the file ino; how many names these are.
func filled(size int, ino uint32) (string, int) {
	s, names := "", 0
	for len(s) < size {
		next := min(size-len(s), 65)
		if rest := size - len(s) - next; rest > 0 && rest < 10 {
			next -= 10
		}
		s += bytesOf((fmt.Sprintf("%04d", names) + strings.Repeat("n", 59))[:next-6], ino)
		names++
	}
	return s, names
}

// P14.1: the root alone.
func TestNew(t *testing.T) {
	wantNodes(t, plain.New(), api.Node{Kind: 2, Mode: 493, Links: 1})
	if !plain.Right(plain.New()) {
		t.Error("New is not right")
	}
	one := plain.New()
	one[2] = api.Node{}
	_ = append(one[:2], api.Node{Kind: 7})
	wantNodes(t, plain.New(), api.Node{Kind: 2, Mode: 493, Links: 1})
}

// P14.1: four calls but ask.
func TestAsks(t *testing.T) {
	for op := -50; op < 100; op++ {
		want := op == 4 || op == 11 || op == 12 || op == 13
		if plain.Asks(op) != want {
			t.Errorf("Asks(%d) is %v", op, !want)
		}
	}
	for _, op := range []int{math.MinInt, math.MaxInt, 1 << 32, 4 + 1<<32, 4 + 1<<8, 12 + 1<<16} {
		if plain.Asks(op) {
			t.Errorf("Asks(%d) is true", op)
		}
	}
}

// P14.2: what the chapter's examples have.
func TestExamples(t *testing.T) {
	l := behind(t, mkdir("/a"), create("/a/b"))
	refuse(t, l, rmdir("/a"), 142)
	refuse(t, l, rename("/a", "/a/c"), 147)
	refuse(t, behind(t, symlink("/l", "l")), read("/l", 0, 1), 143)
}

// rightOnes are files that are right.
func rightOnes() map[string][]api.Node {
	full, names := filled(20000, 3)
	return map[string][]api.Node{
		"the root":             plain.New(),
		"places of none":       rootAmong(5),
		"all places":           rootAmong(240),
		"all places in use":    manyOf(240),
		"a hole":               filesOf(dirOf("a", 4), api.Node{}, fileOf(1, "")),
		"modes at the end":     {{}, {}, {Kind: 2, Mode: 4095, Links: 1}},
		"times at the end":     {{}, {}, {Kind: 2, Links: 1, Time: late, Data: bytesOf("a", 3)}, {Kind: 1, Links: 1, Time: late, Mode: 4095}},
		"a file of all bytes":  filesOf(dirOf("a", 3), fileOf(1, strings.Repeat("x", 200000))),
		"a file of bytes 0":    filesOf(dirOf("a", 3), fileOf(1, "\x00")),
		"a short link":         filesOf(dirOf("a", 3), linkOf(1, "x")),
		"a long link":          filesOf(dirOf("a", 3), linkOf(1, strings.Repeat("x", 500))),
		"a link to no path":    filesOf(dirOf("a", 3), linkOf(1, "\xff"+strings.Repeat("/x", 200))),
		"two names":            filesOf(dirOf("a", 3, "b", 3), fileOf(2, "")),
		"two names of a link":  filesOf(dirOf("b", 3, "a", 3), linkOf(2, "a")),
		"names in directories": filesOf(dirOf("a", 3, "b", 4), dirOf("a", 4), fileOf(2, "")),
		"lower ones":           filesOf(dirOf("a", 5), fileOf(1, ""), dirOf("x", 3), dirOf("y", 4)),
		"a thousand names":     spread(1000),
		"a full directory":     {{}, {}, {Kind: 2, Links: 1, Data: full}, fileOf(uint16(names), "")},
		"deeper than any path": deep(239),
	}
}

// rootAmong are files of the root alone, of so many places.
func rootAmong(places int) []api.Node {
	return append(plain.New(), make([]api.Node, places-3)...)
}

// deep are files of so many places, each but the root in the one ahead.
func deep(places int) []api.Node {
	l := rootAmong(places)
	for ino := 3; ino < places; ino++ {
		l[ino-1].Data = bytesOf("d", uint32(ino))
		l[ino] = dirOf()
	}
	return l
}

// P14.1: files that are right.
func TestRight(t *testing.T) {
	for what, l := range rightOnes() {
		if !plain.Right(l) || !rightByWords(l) {
			t.Errorf("%s: Right is %v, by words %v", what, plain.Right(l), rightByWords(l))
		}
	}
}

// wrongOnes are files that are wrong, each for one reason.
func wrongOnes() map[string][]api.Node {
	root := func(change func(n *api.Node)) []api.Node {
		l := plain.New()
		change(&l[2])
		return l
	}
	a := func(n api.Node) []api.Node { return filesOf(dirOf("a", 3), n) }
	full, names := filled(20000, 3)
	over := append(filesOf(dirOf()), fileOf(uint16(names+1), ""))
	over[2].Data = full + bytesOf("a", 3)
	return map[string][]api.Node{
		"none":                     nil,
		"empty":                    {},
		"one":                      {{}},
		"two":                      plain.New()[:2],
		"241 places":               rootAmong(241),
		"241 in use":               manyOf(241),
		"many places":              rootAmong(100000),
		"0 is one":                 {fileOf(1, ""), {}, dirOf("a", 0)},
		"0 has a mode":             {{Mode: 1}, {}, dirOf()},
		"0 has a time":             {{Time: 1}, {}, dirOf()},
		"1 is one":                 {{}, fileOf(1, ""), dirOf("a", 1)},
		"1 has links":              {{}, {Links: 1}, dirOf()},
		"1 has data":               {{}, {Data: "x"}, dirOf()},
		"1 is a directory":         {{}, dirOf(), dirOf()},
		"no root":                  make([]api.Node, 3),
		"no root ahead of one":     filesOf(api.Node{}, fileOf(1, "")),
		"the root is a file":       filesOf(fileOf(1, "")),
		"the root is a link":       filesOf(linkOf(1, "x")),
		"the root is of none":      root(func(n *api.Node) { n.Links = 0 }),
		"the root has two":         root(func(n *api.Node) { n.Links = 2 }),
		"the root's mode":          root(func(n *api.Node) { n.Mode = 4096 }),
		"the root's time":          root(func(n *api.Node) { n.Time = late + 1 }),
		"the root's bytes":         root(func(n *api.Node) { n.Data = "x" }),
		"kind 4":                   a(api.Node{Kind: 4, Links: 1}),
		"kind -1":                  a(api.Node{Kind: -1, Links: 1}),
		"a kind far off":           a(api.Node{Kind: 1 + 1<<32, Links: 1}),
		"none with a mode":         filesOf(dirOf(), api.Node{Mode: 1}),
		"none with links":          filesOf(dirOf(), api.Node{Links: 1}),
		"none with a time":         filesOf(dirOf(), api.Node{Time: 1}),
		"none with data":           filesOf(dirOf(), api.Node{Data: "x"}),
		"none with a name":         filesOf(dirOf("a", 3), api.Node{Links: 1}),
		"a mode":                   a(api.Node{Kind: 1, Links: 1, Mode: 4096}),
		"a time":                   a(api.Node{Kind: 1, Links: 1, Time: 1 << 48}),
		"a time far off":           a(api.Node{Kind: 1, Links: 1, Time: math.MaxUint64}),
		"a big file":               a(fileOf(1, strings.Repeat("x", 200001))),
		"a link of none":           a(linkOf(1, "")),
		"a long link":              a(linkOf(1, strings.Repeat("x", 501))),
		"a link of a byte 0":       a(linkOf(1, "a\x00b")),
		"a link of a byte 0 first": a(linkOf(1, "\x00")),
		"bytes of no directory":    a(api.Node{Kind: 2, Links: 1, Data: "abcdefg"}),
		"a byte more":              {{}, {}, {Kind: 2, Links: 1, Data: bytesOf("a", 3) + "x"}, fileOf(1, "")},
		"the same name twice":      filesOf(dirOf("a", 3, "a", 3), fileOf(2, "")),
		"a name of no text":        filesOf(dirOf("", 3), fileOf(1, "")),
		"a name ..":                filesOf(dirOf("..", 3), fileOf(1, "")),
		"a name of 60":             filesOf(dirOf(strings.Repeat("n", 60), 3), fileOf(1, "")),
		"a name of 0":              filesOf(dirOf("a", 0)),
		"a name of 1":              filesOf(dirOf("a", 1)),
		"a name of the root":       filesOf(dirOf("a", 2)),
		"a name of the root below": filesOf(dirOf("a", 3), dirOf("a", 2)),
		"a name of no place":       filesOf(dirOf("a", 3)),
		"a name of none":           filesOf(dirOf("a", 3), api.Node{}),
		"a name far off":           filesOf(dirOf("a", 1<<32-1), fileOf(1, "")),
		"a name that wraps":        filesOf(dirOf("a", 3+1<<31), fileOf(1, "")),
		"more than a directory":    over,
		"no links":                 a(fileOf(0, "")),
		"links 2 of one":           a(fileOf(2, "")),
		"links 1 of two":           filesOf(dirOf("a", 3, "b", 3), fileOf(1, "")),
		"links 1 of none":          filesOf(dirOf(), fileOf(1, "")),
		"links 0 of none":          filesOf(dirOf(), fileOf(0, "")),
		"links 3 of two":           filesOf(dirOf("a", 4), dirOf("b", 4), fileOf(3, "")),
		"1001 names":               spread(1001),
		"65537 names, links 1":     spread(65537),
		"a directory of two names": filesOf(dirOf("a", 3, "b", 3), api.Node{Kind: 2, Links: 2}),
		"links of a directory":     filesOf(dirOf("a", 3, "b", 3), dirOf()),
		"links 2 of a directory":   a(api.Node{Kind: 2, Links: 2}),
		"no links of a directory":  a(api.Node{Kind: 2}),
		"within itself":            filesOf(dirOf(), dirOf("a", 3)),
		"within itself, and named": filesOf(dirOf("a", 3), api.Node{Kind: 2, Links: 2, Data: bytesOf("a", 3)}),
		"a ring of two":            filesOf(dirOf(), dirOf("a", 4), dirOf("a", 3)),
		"a ring with a file":       filesOf(dirOf("b", 5), dirOf("a", 4), dirOf("a", 3, "c", 5), fileOf(2, "")),
		"a ring with its own file": filesOf(dirOf(), dirOf("a", 4), dirOf("a", 3, "c", 5), fileOf(1, "")),
		"a ring that is reached":   filesOf(dirOf("a", 3), dirOf("b", 4), dirOf("c", 3)),
		"not reached, a name less": filesOf(dirOf("b", 4), dirOf("a", 3), fileOf(1, "")),
		"wrong bytes in a ring":    filesOf(dirOf(), api.Node{Kind: 2, Links: 1, Data: "x"}),
	}
}

// P14.1: files that are wrong; Find and Do tell it first, and Do answers them as they were.
func TestWrong(t *testing.T) {
	for what, l := range wrongOnes() {
		if plain.Right(l) || rightByWords(l) {
			t.Errorf("%s: Right is %v, by words %v", what, plain.Right(l), rightByWords(l))
		}
		wantFind(t, l, "/", 0, api.ErrTree)
		wantFind(t, l, "a", 0, api.ErrTree)
		for _, c := range []api.Call{stat("/"), create("/x"), create("x"), rename("/a", "/b"), {Op: 16}, {}, touch("/", -1)} {
			for _, now := range []uint64{1, late + 1} {
				if m, r := plain.Do(l, c, now); !slices.Equal(m, l) || !reflect.DeepEqual(r, api.Reply{Code: 139}) {
					t.Errorf("%s: %.80q is answered %.80q", what, fmt.Sprint(c), fmt.Sprint(r))
				}
			}
		}
	}
}

// P14.1: right files, each changed a little, are right or wrong by the chapter's words.
func TestRightByWords(t *testing.T) {
	r := rand.New(rand.NewPCG(14, 1))
	kinds := []int{-1, 0, 1, 2, 3, 4}
	times := []uint64{0, 1, late, late + 1}
	modes := []uint16{0, 1, 4095, 4096, 65535}
	right := 0
	for range 20000 {
		l := wander(r, 1+r.IntN(40)).nodes()
		for range r.IntN(3) {
			n := &l[r.IntN(len(l))]
			switch r.IntN(8) {
			case 0:
				n.Kind = kinds[r.IntN(len(kinds))]
			case 1:
				n.Mode = modes[r.IntN(len(modes))]
			case 2:
				n.Time = times[r.IntN(len(times))]
			case 3:
				n.Links = uint16(r.IntN(4))
			case 4:
				n.Data = n.Data[:r.IntN(len(n.Data)+1)]
			case 5:
				n.Data += bytesOf("qrs"[r.IntN(3):], uint32(r.IntN(len(l)+1)))
				if of := r.IntN(len(l)); r.IntN(2) == 0 {
					l[of].Links++
				}
			case 6:
				*n = l[r.IntN(len(l))]
			case 7:
				if at := r.IntN(len(n.Data) + 1); at < len(n.Data) {
					n.Data = n.Data[:at] + string([]byte{byte(r.IntN(8))}) + n.Data[at+1:]
				}
			}
		}
		want := rightByWords(l)
		if want {
			right++
		}
		if plain.Right(l) != want {
			t.Fatalf("Right is %v of %.500q", !want, fmt.Sprint(l))
		}
	}
	if right < 2000 || right > 18000 {
		t.Errorf("%d were right", right)
	}
}

// P14.1, and to go along paths: links are followed, at the end, too, from the directory that they are in.
func TestFind(t *testing.T) {
	l := behind(t, mkdir("/a"), mkdir("/a/b"), create("/a/b/c"), symlink("/d", "a/b"), symlink("/a/e", "b/c"), symlink("/a/b/f", "../../d/c"), symlink("/r", "/"), symlink("/a/g", "/a/b/"), symlink("/h", "none"), symlink("/i", "none/x"), symlink("/j", "a/b/c/x"), symlink("/a/k", "."), symlink("/a/l", "../../../a/./b//c"))
	for path, want := range map[string]uint32{
		"/": 2, "//": 2, "/..": 2, "/a/..": 2, "/a": 3, "/a/": 3, "/a/b": 4, "/a/b/c": 5, "/a/./b/../b/c": 5,
		"/d": 4, "/d/c": 5, "/d/": 4, "/d/..": 2, "/a/e": 5, "/a/b/f": 5, "/d/f": 5, "/r": 2, "/r/a": 3, "/r/r/r/d/c": 5, "/r/a/g/c": 5, "/a/g": 4, "/a/g/f": 5, "/a/k": 3, "/a/k/k/b": 4, "/a/k/e": 5, "/a/l": 5,
	} {
		wantFind(t, l, path, want, 0)
	}
	for path, want := range map[string]api.Errno{
		"": 120, "a": 120, "a/b": 120, "/\x00": 120, "/" + strings.Repeat("n", 60): 120, strings.Repeat("/x", 41): 120, strings.Repeat("/", 1001): 120,
		"/x": 112, "/a/x": 112, "/x/y": 112, "/x/y/z": 112, "/d/x": 112, "/h": 112, "/h/x": 112, "/i": 112, "/a/x/c": 112, strings.Repeat("/x", 40): 112,
		"/a/b/c/x": 140, "/a/b/c/x/y": 140, "/a/e/x": 140, "/d/c/x": 140, "/j": 140, "/j/x": 140, "/d/f/c": 140,
	} {
		wantFind(t, l, path, 0, want)
	}
}

// To go along a path: eight links are followed, not nine, wherever they stand.
func TestNineLinks(t *testing.T) {
	calls := []api.Call{mkdir("/0"), create("/0/f"), symlink("/none", "x")}
	for k := 1; k < 12; k++ {
		calls = append(calls, symlink(fmt.Sprint("/", k), fmt.Sprint("/", k-1)))
		calls = append(calls, symlink(fmt.Sprint("/0/s", k), "."))
	}
	l := behind(t, append(calls, symlink("/here", "."), symlink("/self", "self"), symlink("/one", "two"), symlink("/two", "/one"))...)
	for k := range 12 {
		p := fmt.Sprint("/", k)
		hops := strings.Repeat("/here", k)
		if k <= 8 {
			wantFind(t, l, p, 3, 0)
			wantFind(t, l, p+"/f", 4, 0)
			wantFind(t, l, hops+"/0/f", 4, 0)
			wantFind(t, l, hops+"/..", 2, 0)
			wantFind(t, l, p+strings.Repeat("/s1", 8-k)+"/f", 4, 0)
			refuse(t, l, read(p+strings.Repeat("/s1", 9-k)+"/f", 0, 1), 143)
			wantFind(t, l, p+"/none", 0, 112)
		} else {
			wantFind(t, l, p, 0, 143)
			wantFind(t, l, p+"/f", 0, 143)
			wantFind(t, l, hops+"/0/f", 0, 143)
			wantFind(t, l, hops+"/none/none/none", 0, 143)
		}
		if k == 9 {
			wantStat(t, l, p, api.Stat{Kind: 3, Mode: 511, Links: 1, Size: 2, Time: uint64(2 + 2*k)})
			refuse(t, l, create(p), 143)
			refuse(t, l, list(p), 143)
			refuse(t, l, stat(p+"/f"), 143)
			refuse(t, l, link("/0/f", p+"/x"), 143)
			refuse(t, l, rename("/0/f", p+"/x"), 143)
		}
	}
	wantFind(t, l, strings.Repeat("/here", 7)+"/none", 0, 112)
	wantFind(t, l, strings.Repeat("/here", 8)+"/none", 0, 143)
	for _, p := range []string{"/self", "/self/x", "/one", "/two", "/one/..//two"} {
		wantFind(t, l, p, 0, 143)
	}
	wantData(t, l, readlink("/self"), "self")
}

// To go along a path: what a link says has a path's errors, and with what is left at most 40 parts.
func TestLinksAndParts(t *testing.T) {
	l := deep(60)
	said := map[string]string{
		"/wide": strings.Repeat("d/", 30), "/bad": strings.Repeat("n", 60), "/over": strings.Repeat("d/", 41), "/just": strings.Repeat("d/", 40), "/up": "../..", "/more": "/d/d/", "/back": "d/../d/../" + strings.Repeat("d/../", 40), "/odd": "a/\xff/...",
	}
	for p, s := range said {
		l = more(t, l, 1, symlink(p, s))
	}
	l = more(t, l, 1, symlink(strings.Repeat("/d", 35)+"/l", "d/d"), symlink(strings.Repeat("/d", 35)+"/s", "d"))
	d := func(n int) string { return strings.Repeat("/d", n) }
	for path, want := range map[string]uint32{
		"/wide": 32, "/wide" + d(10): 42, "/just": 42, "/up": 2, "/up" + d(39): 41, "/more" + d(38): 42, "/back": 2, "/back" + d(39): 41, d(40): 42, d(35) + "/l" + d(3): 42, d(35) + "/s" + d(4): 42, "/up/wide": 32,
	} {
		wantFind(t, l, path, want, 0)
	}
	for path, want := range map[string]api.Errno{
		"/wide" + d(11): 120, "/just/d": 120, "/just/x": 120, "/more" + d(39): 120, d(35) + "/l" + d(4): 120, "/bad": 120, "/bad/x": 120, "/over": 120, "/over/..": 0, "/odd": 112, "/odd/x": 112, d(41): 120,
	} {
		if want == 0 {
			wantFind(t, l, path, 2, 0)
		} else {
			wantFind(t, l, path, 0, want)
		}
	}
	refuse(t, l, stat("/just/d"), 120)
	refuse(t, l, create("/just/x"), 120)
	refuse(t, l, link("/x", "/y"), 112)
	refuse(t, l, rename("/d", "/just/x"), 120)
	wantData(t, l, readlink("/over"), said["/over"])
}

// To go along a path: what a link says is joined with the parts gone so far, which may be at most 1000 bytes.
func TestLinksInLongPaths(t *testing.T) {
	l := filesOf(dirOf())
	name := strings.Repeat("n", 59)
	for ino := 3; ino < 23; ino++ { // each behind 60 bytes more
		l[ino-1].Data += bytesOf(name, uint32(ino))
		l = append(l, dirOf())
	}
	at := strings.Repeat("/"+name, 15)
	l = more(t, l, 1, create(at+"/f"), symlink(at+"/s", "./f"), symlink(at+"/t", strings.Repeat("./", 48)+"../"), symlink(at+"/u", strings.Repeat("./", 49)+".."), symlink("/half", strings.Repeat(name+"/", 8)))
	wantFind(t, l, at+"/s", 23, 0)
	wantFind(t, l, at+"/t", 16, 0)
	wantFind(t, l, at+"/u", 0, 120) // 900 bytes, a slash, and 100
	wantFind(t, l, "/half/"+strings.Repeat("/"+name, 12), 22, 0)
	l = more(t, l, 1, symlink("/half/"+strings.Repeat("/"+name, 12)+"/rel", "."), symlink("/half/"+strings.Repeat("/"+name, 12)+"/abs", "/"))
	wantFind(t, l, "/half/"+strings.Repeat("/"+name, 12)+"/rel", 0, 120)
	wantFind(t, l, "/half/"+strings.Repeat("/"+name, 12)+"/abs", 2, 0)
}

// P14.2: the time must be below 2^48, the op one of the fifteen, ahead of what the call says.
func TestOpsAndTimes(t *testing.T) {
	l := behind(t, mkdir("/a"))
	for _, op := range []int{math.MinInt, -1, 0, 16, 17, 100, 1 << 32, 1 + 1<<32, math.MaxInt} {
		refuse(t, l, api.Call{Op: op, Path: "/a"}, 2)
		refuse(t, l, api.Call{Op: op, Path: "x"}, 2)
	}
	for op := 1; op <= 15; op++ {
		for _, now := range []uint64{late + 1, math.MaxUint64} {
			for _, p := range []string{"/a", "/b", "b"} {
				if m, r := plain.Do(l, api.Call{Op: op, Path: p, Data: "x"}, now); !slices.Equal(m, l) || !reflect.DeepEqual(r, api.Reply{Code: 2}) {
					t.Errorf("op %d at %d is answered %v", op, now, r)
				}
			}
		}
	}
	m, r := plain.Do(l, create("/x"), late)
	if r.Code != 0 || !plain.Right(m) || m[4].Time != late || m[2].Time != late {
		t.Errorf("at the last time %d is answered", r.Code)
	}
}

// P14.2: each call's wrong numbers, and wrong data, are told ahead of its path; those that a call does not take make no difference.
func TestWrongArguments(t *testing.T) {
	l := behind(t, create("/f"), mkdir("/d"), symlink("/s", "f"))
	for _, p := range []string{"/f", "/d", "/s", "/none", "/none/x", "x", "/f/x", ""} {
		for _, mode := range []int{math.MinInt, -1, 4096, 65536, 65536 + 420, 1 << 32, math.MaxInt} {
			for _, op := range []int{api.OpCreate, api.OpMkdir, api.OpChmod} {
				refuse(t, l, api.Call{Op: op, Path: p, Mode: mode}, 2)
			}
		}
		for _, n := range []int64{math.MinInt64, -1, -1 << 32} {
			refuse(t, l, write(p, n, "x"), 2)
			refuse(t, l, write(p, n, ""), 2)
			refuse(t, l, trunc(p, n), 2)
			refuse(t, l, read(p, n, 1), 2)
			refuse(t, l, read(p, 1, n), 2)
			refuse(t, l, read(p, n, n), 2)
			refuse(t, l, touch(p, n), 2)
		}
		for _, n := range []int64{1 << 48, math.MaxInt64} {
			refuse(t, l, touch(p, n), 2)
		}
		for _, data := range []string{"", "\x00", "a\x00", "\x00a", strings.Repeat("x", 501), strings.Repeat("x", 1<<20)} {
			refuse(t, l, symlink(p, data), 2)
		}
	}
	odd := api.Call{To: "odd", Data: "\x00", Off: -1, N: -1, Mode: -1}
	for _, c := range []api.Call{create("/x"), mkdir("/x"), symlink("/x", "y"), write("/f", 0, "z"), trunc("/f", 1), chmod("/f", 1), touch("/f", 5), unlink("/f"), rmdir("/d"), link("/f", "/x"), rename("/f", "/x"), read("/f", 0, 1), readlink("/s"), stat("/f"), list("/d")} {
		o := odd
		o.Op, o.Path = c.Op, c.Path
		switch c.Op {
		case api.OpCreate, api.OpMkdir, api.OpChmod:
			o.Mode = c.Mode
		case api.OpSymlink:
			o.Data = c.Data
		case api.OpWrite:
			o.Data, o.Off = c.Data, c.Off
		case api.OpTrunc, api.OpTouch:
			o.N = c.N
		case api.OpRead:
			o.Off, o.N = c.Off, c.N
		case api.OpLink, api.OpRename:
			o.To = c.To
		}
		m, r := plain.Do(l, c, 50)
		n, s := plain.Do(l, o, 50)
		if !slices.Equal(m, n) || !reflect.DeepEqual(r, s) || r.Code != 0 {
			t.Errorf("%v is answered %v, with others set %v", c, r, s)
		}
	}
}

// P14.2: new files, their numbers, modes, times, and that of the directory.
func TestNewFiles(t *testing.T) {
	l := behind(t, mkdir("/a"), create("/a/b"), symlink("/a/c", "\xff/.."), api.Call{Op: api.OpCreate, Path: "/e", Mode: 4095, Data: "x"}, api.Call{Op: api.OpMkdir, Path: "/f"})
	root := dirOf("a", 3, "e", 6, "f", 7)
	root.Time = 5
	a := dirOf("b", 4, "c", 5)
	a.Time = 3
	wantNodes(t, l, root, a,
		api.Node{Kind: 1, Mode: 420, Links: 1, Time: 2},
		api.Node{Kind: 3, Mode: 511, Links: 1, Time: 3, Data: "\xff/.."},
		api.Node{Kind: 1, Mode: 4095, Links: 1, Time: 4},
		api.Node{Kind: 2, Links: 1, Time: 5})
	for _, c := range []api.Call{create("/a"), create("/a/b"), create("/"), create("/a/.."), mkdir("/a"), mkdir("/a/b"), mkdir("/a/c"), mkdir("/"), symlink("/a", "x"), symlink("/a/b", "x"), symlink("/a/c", "x"), symlink("/", "x")} {
		refuse(t, l, c, 113)
	}
	for _, another := range []func(string) api.Call{create, mkdir, func(p string) api.Call { return symlink(p, "x") }} {
		refuse(t, l, another("x"), 120)
		refuse(t, l, another(""), 120)
		refuse(t, l, another("/x/y"), 112)
		refuse(t, l, another("/a/x/y"), 112)
		refuse(t, l, another("/e/x"), 140)
		refuse(t, l, another("/e/x/y"), 140)
		refuse(t, l, another("/a/"+strings.Repeat("n", 60)), 120)
		more(t, l, 9, another("/a/"+strings.Repeat("n", 59)))
		more(t, l, 9, another("/a/../f/../f/x"))
	}
	more(t, l, 9, symlink("/x", strings.Repeat("x", 500)))
}

// P14.2: what is created behind a link stands where that leads to; directories and links are not made there.
func TestCreateBehindLinks(t *testing.T) {
	l := behind(t, mkdir("/a"), symlink("/l", "a/new"), symlink("/m", "l"), symlink("/n", "none/x"), symlink("/a/up", "../o"), symlink("/r", "/"))
	m := more(t, l, 9, create("/m"))
	wantNames(t, m, "/a", api.Name{Name: "new", Ino: 9}, api.Name{Name: "up", Ino: 7})
	if m[9] != (api.Node{Kind: 1, Mode: 420, Links: 1, Time: 9}) || m[3].Time != 9 || m[2].Time != l[2].Time {
		t.Errorf("behind a link is made %v", m[9])
	}
	wantFind(t, m, "/m", 9, 0)
	refuse(t, m, create("/m"), 113)
	refuse(t, m, create("/l"), 113)
	refuse(t, l, create("/n"), 112)
	refuse(t, l, create("/r"), 113)
	m = more(t, l, 9, create("/a/up"))
	wantFind(t, m, "/o", 9, 0)
	for _, p := range []string{"/l", "/m", "/n", "/a/up", "/r"} {
		refuse(t, l, mkdir(p), 113)
		refuse(t, l, symlink(p, "x"), 113)
	}
	m = more(t, l, 9, mkdir("/r/a/../b"), symlink("/r/c", "x"))
	wantNames(t, m, "/", api.Name{Name: "a", Ino: 3}, api.Name{Name: "b", Ino: 9}, api.Name{Name: "c", Ino: 10}, api.Name{Name: "l", Ino: 4}, api.Name{Name: "m", Ino: 5}, api.Name{Name: "n", Ino: 6}, api.Name{Name: "r", Ino: 8})
}

// P14.2: a new file has the lowest number that is none, and the list grows by it alone; ErrMany at 240.
func TestNumbers(t *testing.T) {
	l := behind(t, create("/3"), create("/4"), mkdir("/5"), create("/6"))
	l = more(t, l, 9, unlink("/4"), unlink("/6"))
	if len(l) != 7 || l[4] != (api.Node{}) || l[6] != (api.Node{}) {
		t.Errorf("behind two names less there are %v", l)
	}
	l = more(t, l, 9, symlink("/b", "x"), create("/c"), mkdir("/d"))
	wantFind(t, l, "/c", 6, 0)
	wantFind(t, l, "/d", 7, 0)
	if len(l) != 8 || l[4].Kind != 3 {
		t.Errorf("behind three names more there are %v", l)
	}
	m := more(t, rootAmong(100), 1, create("/a"), create("/b"))
	if len(m) != 100 || m[3].Kind != 1 || m[4].Kind != 1 {
		t.Errorf("of 100 places are left %d", len(m))
	}
	for places := 236; places <= 240; places++ {
		m := manyOf(places)
		for len(m) < 240 {
			m = more(t, m, 1, create(fmt.Sprint("/", len(m))))
		}
		for _, c := range []api.Call{create("/new"), mkdir("/new"), symlink("/new", "x")} {
			refuse(t, m, c, 145)
		}
		refuse(t, m, create("/003"), 113)
		refuse(t, m, create("/none/x"), 112)
		m = more(t, m, 1, unlink("/100"))
		if m = more(t, m, 1, mkdir("/new")); m[100].Kind != 2 || len(m) != 240 {
			t.Errorf("of 240 places %d are left", len(m))
		}
		refuse(t, m, create("/y"), 145)
		m = more(t, m, 1, unlink("/239"), unlink("/238"))
		if len(m) != 240 {
			t.Errorf("of 240 places %d are left", len(m))
		}
	}
}

// P14.2: a directory has at most 20000 bytes, whoever puts a name there.
func TestFullDirectories(t *testing.T) {
	for _, room := range []int{0, 6, 7, 8, 9, 20} {
		l := filesOf(dirOf("d", 3, "f", 4, "e", 5), dirOf(), fileOf(1, ""), dirOf("x", 6), fileOf(1, ""))
		full, names := filled(20000-room, 4)
		l[3].Data, l[4].Links = full, uint16(1+names)
		if !plain.Right(l) {
			t.Fatalf("with room %d files are not right", room)
		}
		for size := 1; size < 16; size++ {
			name := "/d/" + strings.Repeat("z", size)
			for _, c := range []api.Call{create(name), mkdir(name), symlink(name, "x"), link("/f", name), rename("/f", name), rename("/e", name), rename("/e/x", name)} {
				if 6+size > room {
					refuse(t, l, c, 114)
				} else {
					more(t, l, 9, c)
				}
			}
		}
		first := "/d/" + full[6:6+int(full[4])] // of 59 bytes: in its place a name has room that is longer by the rest
		for size := 40; size < 60; size++ {
			name := "/d/" + strings.Repeat("z", size)
			more(t, l, 9, rename(first, name))
			if 6+size > room {
				refuse(t, l, link(first, name), 114)
			}
		}
		more(t, l, 9, unlink(first), create("/d/"+strings.Repeat("z", 59)))
		refuse(t, l, create("/d/"+strings.Repeat("z", 59)), 114)
		more(t, l, 9, rename("/e/x", first)) // it stands in place of another one
	}
}

// P14.2: ErrMany is told ahead of a directory without room.
func TestManyAheadOfFull(t *testing.T) {
	l := manyOf(240)
	full, names := filled(20000, 4)
	l[3] = api.Node{Kind: 2, Links: 1, Data: full}
	l[4].Links = uint16(1 + names)
	refuse(t, l, create("/003/x"), 145)
	refuse(t, l, mkdir("/003/x"), 145)
	refuse(t, l, symlink("/003/x", "x"), 145)
	refuse(t, l, link("/005", "/003/x"), 114)
	refuse(t, more(t, l, 1, unlink("/010")), create("/003/x"), 114)
}

// P14.2: what is written stands there, bytes 0 ahead; at most 200000.
func TestWrite(t *testing.T) {
	l := behind(t, mkdir("/d"), create("/f"), symlink("/l", "f"), symlink("/n", "none"), symlink("/e", "d"))
	for _, c := range []struct {
		off        int64
		data, want string
	}{
		{0, "xyz", "xyz"}, {3, "a", "xyza"}, {1, "--", "x--a"}, {2, "12345", "x-12345"}, {9, "e", "x-12345\x00\x00e"}, {0, "\x00", "\x00-12345\x00\x00e"}, {10, "end", "\x00-12345\x00\x00eend"}, {13, "!", "\x00-12345\x00\x00eend!"}, {0, "0123456789abcdef", "0123456789abcdef"}, {4, "\xff\xfe", "0123\xff\xfe6789abcdef"},
	} {
		l = more(t, l, 50+uint64(c.off), write("/l", c.off, c.data))
		wantData(t, l, read("/f", 0, 99), c.want)
		wantStat(t, l, "/f", api.Stat{Kind: 1, Mode: 420, Links: 1, Size: len(c.want), Time: 50 + uint64(c.off)})
	}
	if l[2].Time != 5 || l[5].Time != 3 {
		t.Errorf("a write of a file wrote the times of %v, %v", l[2], l[5])
	}
	for _, off := range []int64{0, 1, 16, 17, 199999, 200000} {
		if m := more(t, l, 99, write("/f", off, "")); !slices.Equal(m, l) {
			t.Errorf("no bytes at %d changed something", off)
		}
		if m := more(t, l, 99, write("/f", off, strings.Repeat("y", int(200000-off)))); off < 200000 && (len(m[4].Data) != 200000 || m[4].Time != 99) {
			t.Errorf("from %d on the file has %d bytes", off, len(m[4].Data))
		}
		refuse(t, l, write("/f", off, strings.Repeat("y", int(200001-off))), 144)
	}
	for _, off := range []int64{200001, 1 << 32, 1 << 48, math.MaxInt64 - 1, math.MaxInt64} {
		for _, data := range []string{"", "x", "xyz", strings.Repeat("x", 200001)} {
			refuse(t, l, write("/f", off, data), 144)
		}
	}
	refuse(t, l, write("/f", 0, strings.Repeat("x", 1<<22)), 144)
	refuse(t, l, write("x", 300000, "x"), 120)
	refuse(t, l, write("/none", 300000, "x"), 112)
	refuse(t, l, write("/none", 0, ""), 112)
	refuse(t, l, write("/n", 0, "x"), 112)
	refuse(t, l, write("/n/x", 0, "x"), 112)
	refuse(t, l, write("/f/x", 0, "x"), 140)
	refuse(t, l, write("/d", 300000, "x"), 141)
	refuse(t, l, write("/e", 0, ""), 141)
	refuse(t, l, write("/", 0, "x"), 141)
}

// P14.2: bytes are cut, or bytes 0 stand behind; at most 200000.
func TestTrunc(t *testing.T) {
	l := behind(t, mkdir("/d"), create("/f"), symlink("/l", "f"), symlink("/n", "none"), write("/f", 0, "abcdef"))
	want := "abcdef"
	for k, n := range []int64{6, 4, 5, 9, 9, 1, 3, 0, 2, 1000, 200000, 199999, 0, 200000, 7} {
		l = more(t, l, 50+uint64(k), trunc("/l", n))
		want = (want + strings.Repeat("\x00", 200000))[:n]
		wantData(t, l, read("/f", 0, 200000), want)
		if l[4].Time != 50+uint64(k) || l[2].Time != 4 {
			t.Errorf("behind a trunc at %d the times are %d, %d", 50+k, l[4].Time, l[2].Time)
		}
	}
	for _, n := range []int64{200001, 1 << 32, 1 << 48, math.MaxInt64} {
		refuse(t, l, trunc("/f", n), 144)
		refuse(t, l, trunc("/l", n), 144)
		refuse(t, l, trunc("/none", n), 112)
		refuse(t, l, trunc("/d", n), 141)
		refuse(t, l, trunc("/f/x", n), 140)
	}
	refuse(t, l, trunc("/n", 0), 112)
	refuse(t, l, trunc("/", 0), 141)
	refuse(t, l, trunc("f", 0), 120)
}

// P14.2: at most so many bytes are told, from there on.
func TestRead(t *testing.T) {
	all := "0123456789"
	l := behind(t, mkdir("/d"), create("/f"), write("/f", 0, all), symlink("/l", "f"), symlink("/n", "none"))
	for off := range int64(15) {
		for _, n := range []int64{0, 1, 2, 5, 9, 10, 11, 1 << 31, 1 << 32, 1 << 48, math.MaxInt64 - off, math.MaxInt64} {
			want := all[min(off, 10):min(max(off+min(n, 100), 0), 10)]
			wantData(t, l, read("/f", off, n), want)
			wantData(t, l, read("/l", off, n), want)
		}
	}
	for _, off := range []int64{1 << 31, 1 << 32, 1 << 48, math.MaxInt64} {
		for _, n := range []int64{0, 1, math.MaxInt64} {
			wantData(t, l, read("/f", off, n), "")
		}
	}
	refuse(t, l, read("/d", 0, 1), 141)
	refuse(t, l, read("/", 0, 0), 141)
	refuse(t, l, read("/none", 0, 1), 112)
	refuse(t, l, read("/n", 0, 1), 112)
	refuse(t, l, read("/f/x", 0, 1), 140)
	refuse(t, l, read("f", 0, 1), 120)
}

// P14.2: a name is taken away, and a file whose last one is gone is none.
func TestUnlink(t *testing.T) {
	l := behind(t, mkdir("/d"), create("/d/f"), write("/d/f", 0, "data"), link("/d/f", "/g"), symlink("/s", "d/f"), symlink("/t", "d"))
	m := more(t, l, 20, unlink("/d/f"))
	root := dirOf("d", 3, "g", 4, "s", 5, "t", 6)
	root.Time = 6
	wantNodes(t, m, root, api.Node{Kind: 2, Mode: 493, Links: 1, Time: 20}, api.Node{Kind: 1, Mode: 420, Links: 1, Time: 20, Data: "data"}, l[5], l[6])
	m = more(t, m, 30, unlink("/g"))
	root = dirOf("d", 3, "s", 5, "t", 6)
	root.Time = 30
	wantNodes(t, m, root, api.Node{Kind: 2, Mode: 493, Links: 1, Time: 20}, api.Node{}, l[5], l[6])
	m = more(t, l, 20, unlink("/s"), unlink("/t"))
	wantFind(t, m, "/d/f", 4, 0)
	wantFind(t, m, "/s", 0, 112)
	if len(m) != 7 || m[5] != (api.Node{}) || m[6] != (api.Node{}) || m[2].Time != 21 {
		t.Errorf("behind the names of links there are %v", m)
	}
	m = more(t, l, 20, unlink("/t/f"))
	wantNames(t, m, "/d")
	refuse(t, l, unlink("/d"), 141)
	refuse(t, l, unlink("/"), 141)
	refuse(t, l, unlink("/t/.."), 141)
	refuse(t, l, unlink("/none"), 112)
	refuse(t, l, unlink("/d/none"), 112)
	refuse(t, l, unlink("/none/f"), 112)
	refuse(t, l, unlink("/g/x"), 140)
	refuse(t, l, unlink("g"), 120)
}

// P14.2: an empty directory's name is taken away.
func TestRmdir(t *testing.T) {
	l := behind(t, mkdir("/d"), mkdir("/d/e"), mkdir("/d/e/x"), create("/f"), symlink("/s", "d/e/x"), symlink("/t", "d"))
	m := more(t, l, 20, rmdir("/t/e/x"))
	if m[5] != (api.Node{}) || len(m) != 9 || m[4] != (api.Node{Kind: 2, Mode: 493, Links: 1, Time: 20}) || m[3] != l[3] || m[2] != l[2] {
		t.Errorf("behind a directory less there are %v", m)
	}
	m = more(t, m, 30, rmdir("/d/e"), rmdir("/d"))
	wantNames(t, m, "/", api.Name{Name: "f", Ino: 6}, api.Name{Name: "s", Ino: 7}, api.Name{Name: "t", Ino: 8})
	refuse(t, l, rmdir("/d"), 142)
	refuse(t, l, rmdir("/d/e"), 142)
	refuse(t, l, rmdir("/f"), 140)
	refuse(t, l, rmdir("/s"), 140)
	refuse(t, l, rmdir("/t"), 140)
	refuse(t, l, rmdir("/f/x"), 140)
	refuse(t, l, rmdir("/"), 2)
	refuse(t, l, rmdir("/d/.."), 2)
	refuse(t, plain.New(), rmdir("/"), 2)
	refuse(t, l, rmdir("/none"), 112)
	refuse(t, l, rmdir("/d/none"), 112)
	refuse(t, l, rmdir("/none/e"), 112)
	refuse(t, l, rmdir("d"), 120)
}

// P14.2: files and links have names put, up to 1000; it is the file's time, too, for its names are more.
func TestLink(t *testing.T) {
	l := behind(t, mkdir("/d"), create("/f"), symlink("/s", "f"), symlink("/n", "none"), symlink("/e", "d"))
	m := more(t, l, 20, link("/f", "/d/g"), link("/d/g", "/e/h"), link("/s", "/r"))
	root := dirOf("d", 3, "f", 4, "s", 5, "n", 6, "e", 7, "r", 5)
	root.Time = 22
	d := dirOf("g", 4, "h", 4)
	d.Time = 21
	wantNodes(t, m, root, d, api.Node{Kind: 1, Mode: 420, Links: 3, Time: 21}, api.Node{Kind: 3, Mode: 511, Links: 2, Time: 22, Data: "f"}, l[6], l[7])
	m = more(t, m, 30, write("/d/h", 0, "all"), chmod("/d/g", 7))
	wantStat(t, m, "/f", api.Stat{Kind: 1, Mode: 7, Links: 3, Size: 3, Time: 30})
	more(t, l, 20, link("/n", "/m"))
	for _, to := range []string{"/", "/f", "/d", "/s", "/n", "/e", "/d/..", "/e/../f"} {
		refuse(t, l, link("/f", to), 113)
	}
	refuse(t, l, link("/d", "/x"), 141)
	refuse(t, l, link("/", "/x"), 141)
	refuse(t, l, link("/d", "x"), 141)
	refuse(t, l, link("/none", "x"), 112)
	refuse(t, l, link("f", "/x"), 120)
	refuse(t, l, link("/f", "x"), 120)
	refuse(t, l, link("/f", ""), 120)
	refuse(t, l, link("/f", "/none/x"), 112)
	refuse(t, l, link("/f", "/n/x"), 112)
	refuse(t, l, link("/f", "/f/x"), 140)
	refuse(t, l, link("/f/x", "/y"), 140)
	many := more(t, spread(999), 20, link("/d/0001", "/one"))
	wantStat(t, many, "/one", api.Stat{Kind: 1, Mode: 420, Links: 1000, Size: 1, Time: 20})
	refuse(t, many, link("/one", "/two"), 146)
	refuse(t, many, link("/one", "/d"), 113)
	refuse(t, many, link("/one", "/none/x"), 112)
	refuse(t, many, link("/one", "two"), 120)
	full := slices.Clone(many)
	s, names := filled(20000-len(full[2].Data), 5)
	full[2].Data += s
	full = append(full, fileOf(uint16(names), ""))
	refuse(t, full, link("/one", "/two"), 146)
	more(t, many, 30, unlink("/one"), link("/d/0000", "/one"))
}

// P14.2: a name is moved, the file stays as it is.
func TestRename(t *testing.T) {
	l := behind(t, mkdir("/a"), create("/a/x"), create("/a/y"), mkdir("/b"), symlink("/s", "a"), write("/a/x", 0, "data"), mkdir("/b/c"))
	m := more(t, l, 20, rename("/a/x", "/b/z"))
	a, b := dirOf("y", 5), dirOf("c", 8, "z", 4)
	a.Time, b.Time = 20, 20
	wantNodes(t, m, l[2], a, l[4], l[5], b, l[7], l[8])
	m = more(t, l, 20, rename("/a/x", "/a/z")) // behind the other one
	a = dirOf("y", 5, "z", 4)
	a.Time = 20
	wantNodes(t, m, l[2], a, l[4], l[5], l[6], l[7], l[8])
	m = more(t, l, 20, rename("/b", "/a/b"))
	root, a := dirOf("a", 3, "s", 7), dirOf("x", 4, "y", 5, "b", 6)
	root.Time, a.Time = 20, 20
	wantNodes(t, m, root, a, l[4], l[5], l[6], l[7], l[8])
	wantFind(t, m, "/a/b/c", 8, 0)
	m = more(t, l, 20, rename("/s", "/b/s"))
	wantData(t, m, readlink("/b/s"), "a")
	m = more(t, l, 20, rename("/s/x", "/s/../b/x"))
	wantFind(t, m, "/b/x", 4, 0)
	m = more(t, l, 20, rename("/b/c", "/s/c"))
	wantFind(t, m, "/a/c", 8, 0)
	m = more(t, l, 20, rename("/b/c", "/c"), rename("/b", "/c/b"), rename("/a", "/c/b/a"))
	wantFind(t, m, "/c/b/a/x", 4, 0)
	for _, c := range []struct {
		from, to string
		want     api.Errno
	}{
		{"x", "/x", 120}, {"/a", "x", 120}, {"/a", "", 120}, {"/none", "x", 112}, {"/none/x", "/y", 112}, {"/a/x/y", "/y", 140}, {"/a", "/none/x", 112}, {"/a", "/a/x/y", 140}, {"/a", "/a/none/y", 112},
		{"/", "x", 2}, {"/", "/", 2}, {"/", "/x", 2}, {"/a/..", "/a/b", 2}, {"/a", "/", 113}, {"/a/x", "/..", 113}, {"/s", "/", 113},
		{"/a", "/a/z", 147}, {"/a", "/a/x", 147}, {"/b", "/b/c", 147}, {"/b", "/b/c/d", 147}, {"/a", "/s/z", 147}, {"/b", "/b/c/../c/e", 147},
		{"/a", "/s", 140}, {"/b", "/a/x", 140}, {"/a", "/b", 142}, {"/b", "/a", 142}, {"/b/c", "/b", 142}, {"/a/x", "/a", 141}, {"/a/x", "/b", 141}, {"/a/x", "/b/c", 141}, {"/s", "/b/c", 141}, {"/s", "/a", 141},
	} {
		refuse(t, l, rename(c.from, c.to), c.want)
	}
}

// P14.2: nothing is done, if both are the same file.
func TestRenameOfTheSame(t *testing.T) {
	l := behind(t, mkdir("/a"), create("/a/x"), link("/a/x", "/a/y"), link("/a/x", "/z"), symlink("/s", "a/x"), link("/s", "/t"))
	for _, c := range [][2]string{{"/a", "/a"}, {"/a", "/a/"}, {"/a/x", "/a/x"}, {"/a/x", "/a/y"}, {"/a/y", "/a/x"}, {"/a/x", "/z"}, {"/z", "/a/y"}, {"/s", "/s"}, {"/s", "/t"}, {"/a", "/a/../a"}} {
		if m := more(t, l, 50, rename(c[0], c[1])); !slices.Equal(m, l) {
			t.Errorf("a rename of %q to %q changed something", c[0], c[1])
		}
	}
	m := more(t, l, 50, rename("/s", "/a/y")) // what it leads to is another one
	wantData(t, m, readlink("/a/y"), "a/x")
	wantStat(t, m, "/z", api.Stat{Kind: 1, Mode: 420, Links: 2, Time: 50})
}

// P14.2: what is at the new place loses its name, which is the other one's where it stands.
func TestRenameOverAnother(t *testing.T) {
	l := behind(t, create("/1"), create("/2"), mkdir("/3"), link("/2", "/more"), mkdir("/5"), mkdir("/5/in"), create("/5/in/f"))
	m := more(t, l, 20, rename("/1", "/2"))
	root := dirOf("2", 3, "3", 5, "more", 4, "5", 6)
	root.Time = 20
	wantNodes(t, m, root, l[3], api.Node{Kind: 1, Mode: 420, Links: 1, Time: 20}, l[5], l[6], l[7], l[8])
	m = more(t, m, 30, rename("/2", "/more"))
	root = dirOf("3", 5, "more", 3, "5", 6)
	root.Time = 30
	wantNodes(t, m, root, l[3], api.Node{}, l[5], l[6], l[7], l[8])
	m = more(t, l, 20, rename("/5/in", "/3"))
	root, five := dirOf("1", 3, "2", 4, "3", 7, "more", 4, "5", 6), dirOf()
	root.Time, five.Time = 20, 20
	wantNodes(t, m, root, l[3], l[4], api.Node{}, five, l[7], l[8])
	wantFind(t, m, "/3/f", 8, 0)
	m = more(t, l, 20, rename("/5/in/f", "/1"))
	root, in := dirOf("1", 8, "2", 4, "3", 5, "more", 4, "5", 6), dirOf()
	root.Time, in.Time = 20, 20
	wantNodes(t, m, root, api.Node{}, l[4], l[5], l[6], in, l[8])
}

// P14.2: a link's data, and of no other one.
func TestReadlink(t *testing.T) {
	long := strings.Repeat("\xff/", 250)
	l := behind(t, mkdir("/d"), create("/d/f"), symlink("/l", "m"), symlink("/m", "d"), symlink("/d/n", "none"), symlink("/long", long))
	wantData(t, l, readlink("/l"), "m")
	wantData(t, l, readlink("/m"), "d")
	wantData(t, l, readlink("/l/n"), "none")
	wantData(t, l, readlink("/long"), long)
	refuse(t, l, readlink("/"), 2)
	refuse(t, l, readlink("/d"), 2)
	refuse(t, l, readlink("/l/f"), 2)
	refuse(t, l, readlink("/none"), 112)
	refuse(t, l, readlink("/d/n/x"), 112)
	refuse(t, l, readlink("/d/f/x"), 140)
	refuse(t, l, readlink("l"), 120)
}

// P14.2: what is known of each kind; links are not followed.
func TestStat(t *testing.T) {
	l := behind(t, mkdir("/d"), create("/d/f"), symlink("/l", "d/f"), write("/l", 0, "abc"), symlink("/n", "none"), link("/d/f", "/g"))
	wantStat(t, l, "/", api.Stat{Kind: 2, Mode: 493, Links: 1, Size: 28, Time: 6})
	wantStat(t, l, "/d", api.Stat{Kind: 2, Mode: 493, Links: 1, Size: 7, Time: 2})
	wantStat(t, l, "/d/f", api.Stat{Kind: 1, Mode: 420, Links: 2, Size: 3, Time: 6})
	wantStat(t, l, "/l", api.Stat{Kind: 3, Mode: 511, Links: 1, Size: 3, Time: 3})
	wantStat(t, l, "/n", api.Stat{Kind: 3, Mode: 511, Links: 1, Size: 4, Time: 5})
	wantStat(t, plain.New(), "/..", api.Stat{Kind: 2, Mode: 493, Links: 1})
	refuse(t, l, stat("/none"), 112)
	refuse(t, l, stat("/l/x"), 140)
	refuse(t, l, stat("/n/x"), 112)
	refuse(t, l, stat("d"), 120)
}

// P14.2: a directory's names, rising byte by byte.
func TestList(t *testing.T) {
	l := behind(t, create("/b"), create("/a"), create("/\xff"), mkdir("/B"), create("/B/\x01"), symlink("/l", "B"), create("/ab"), link("/a", "/aa"), symlink("/n", "none"))
	wantNames(t, l, "/", api.Name{Name: "B", Ino: 6}, api.Name{Name: "a", Ino: 4}, api.Name{Name: "aa", Ino: 4}, api.Name{Name: "ab", Ino: 9}, api.Name{Name: "b", Ino: 3}, api.Name{Name: "l", Ino: 8}, api.Name{Name: "n", Ino: 10}, api.Name{Name: "\xff", Ino: 5})
	wantNames(t, l, "/B", api.Name{Name: "\x01", Ino: 7})
	wantNames(t, l, "/l", api.Name{Name: "\x01", Ino: 7})
	wantNames(t, plain.New(), "/")
	refuse(t, l, list("/a"), 140)
	refuse(t, l, list("/a/x"), 140)
	refuse(t, l, list("/n"), 112)
	refuse(t, l, list("/none"), 112)
	refuse(t, l, list("b"), 120)
}

// P14.2: a mode is written, and no time; links are followed.
func TestChmod(t *testing.T) {
	l := behind(t, mkdir("/d"), create("/d/f"), symlink("/l", "d/f"), symlink("/n", "none"))
	for _, mode := range []int{0, 1, 420, 4094, 4095} {
		m := more(t, l, 50, chmod("/", mode), chmod("/d", mode), chmod("/l", mode))
		want := slices.Clone(l)
		for ino := 2; ino < 5; ino++ {
			want[ino].Mode = uint16(mode)
		}
		wantNodes(t, m, want[2:]...)
	}
	refuse(t, l, chmod("/n", 1), 112)
	refuse(t, l, chmod("/none", 1), 112)
	refuse(t, l, chmod("/d/f/x", 1), 140)
	refuse(t, l, chmod("d", 1), 120)
}

// P14.2: a time is written, and no other one; links are followed.
func TestTouch(t *testing.T) {
	l := behind(t, mkdir("/d"), create("/d/f"), symlink("/l", "d/f"), symlink("/n", "none"))
	for _, n := range []int64{0, 1, 7, 1 << 32, 1<<48 - 2, 1<<48 - 1} {
		m := more(t, l, 50, touch("/", n), touch("/d", n), touch("/l", n))
		want := slices.Clone(l)
		for ino := 2; ino < 5; ino++ {
			want[ino].Time = uint64(n)
		}
		wantNodes(t, m, want[2:]...)
	}
	refuse(t, l, touch("/n", 1), 112)
	refuse(t, l, touch("/none", 1), 112)
	refuse(t, l, touch("/d/f/x", 1), 140)
	refuse(t, l, touch("d", 1), 120)
}

// somePath is a path of few names, of few parts.
func somePath(r *rand.Rand) string {
	pieces := []string{"a", "b", "c", "d", "e", "a", "b", "c", "..", ".", "", "ab"}
	s := ""
	for range r.IntN(5) {
		s += "/" + pieces[r.IntN(len(pieces))]
	}
	if s == "" || r.IntN(100) == 0 {
		return []string{"/", "", "a", "/\x00", "/" + strings.Repeat("n", 60)}[r.IntN(5)]
	}
	return s
}

// someCall is a call of no order, most of which fits.
func someCall(r *rand.Rand) api.Call {
	c := api.Call{Op: 1 + r.IntN(15), Path: somePath(r), To: somePath(r), Mode: r.IntN(4096), Off: int64(r.IntN(12)), N: int64(r.IntN(12))}
	c.Data = "0123456789"[:r.IntN(10)]
	if c.Op == api.OpSymlink {
		c.Data = c.To
		if r.IntN(4) > 0 {
			c.Data = strings.TrimPrefix(c.To, "/")
		}
	}
	if c.Op == api.OpRename && r.IntN(4) == 0 {
		c.To = c.Path + somePath(r)
	}
	if r.IntN(10) == 0 {
		c.Off, c.N = []int64{199995, 200000, 200001, math.MaxInt64}[r.IntN(4)], []int64{199999, 200001, 1<<48 - 1, math.MaxInt64}[r.IntN(4)]
	}
	switch r.IntN(40) {
	case 0:
		c.Off = []int64{-1, 199995, 200000, 200001, math.MaxInt64, math.MinInt64}[r.IntN(6)]
	case 1:
		c.N = []int64{-1, 200000, 200001, 1<<48 - 1, 1 << 48, math.MaxInt64, math.MinInt64}[r.IntN(7)]
	case 2:
		c.Mode = []int{-1, 4095, 4096, 1 << 16}[r.IntN(4)]
	case 3:
		c.Op = []int{-1, 0, 16, 17}[r.IntN(4)]
	}
	return c
}

// wander are the model's files behind calls of no order, few of which take names away.
func wander(r *rand.Rand, calls int) *world {
	w := newWorld()
	for k := range calls {
		c := someCall(r)
		if r.IntN(3) > 0 && (c.Op == api.OpUnlink || c.Op == api.OpRmdir) {
			c.Op = api.OpMkdir
		}
		w.do(c, uint64(k))
	}
	return w
}

// P14.2, P14.3: calls of no order are answered as the model answers them, and what is right stays right.
func TestAgainstTheModel(t *testing.T) {
	r := rand.New(rand.NewPCG(14, 2))
	codes := map[api.Errno]int{}
	done := map[int]int{}
	for range 800 {
		w, l := newWorld(), plain.New()
		for k := range 150 {
			c, now := someCall(r), uint64(r.IntN(1000))
			if k%50 == 49 {
				now = []uint64{late, late + 1, math.MaxUint64}[r.IntN(3)]
			}
			before := slices.Clone(l)
			m, got := plain.Do(l, c, now)
			want := w.do(c, now)
			if !slices.Equal(l, before) {
				t.Fatalf("%+v changed what was handed in", c)
			}
			if got.Code != want.Code || got.Data != want.Data || got.Stat != want.Stat || !slices.Equal(got.Names, want.Names) {
				t.Fatalf("%+v at %d is answered %+v; want %+v; the files are %q", c, now, got, want, fmt.Sprint(l))
			}
			if !slices.Equal(m, w.nodes()) {
				t.Fatalf("behind %+v at %d the files are %q; want %q; ahead %q", c, now, fmt.Sprint(m), fmt.Sprint(w.nodes()), fmt.Sprint(l))
			}
			if !plain.Right(m) {
				t.Fatalf("behind %+v the files are not right", c)
			}
			if (got.Code != 0 || plain.Asks(c.Op)) && !slices.Equal(m, l) {
				t.Fatalf("%+v changed something", c)
			}
			path := somePath(r)
			ino, err := w.find(path)
			wantFind(t, m, path, ino, err)
			l = m
			codes[got.Code]++
			if got.Code == 0 {
				done[c.Op]++
			}
		}
	}
	for _, code := range []api.Errno{0, 2, 112, 113, 120, 140, 141, 142, 143, 144, 147} {
		if codes[code] < 20 {
			t.Errorf("%d was answered %d times", code, codes[code])
		}
	}
	for op := 1; op <= 15; op++ {
		if done[op] < 30 {
			t.Errorf("op %d was done %d times", op, done[op])
		}
	}
}

// P14.3: what was written is read, other files stay.
func TestOthersStay(t *testing.T) {
	l := behind(t, create("/a"), create("/b"), mkdir("/d"), create("/d/c"), write("/b", 0, "other"), symlink("/s", "a"))
	r := rand.New(rand.NewPCG(14, 3))
	for range 300 {
		off, data := int64(r.IntN(2000)), strings.Repeat("0123456789", 1+r.IntN(30))
		m := more(t, l, 50, write("/s", off, data))
		wantData(t, m, read("/a", off, int64(len(data))), data)
		wantData(t, m, read("/a", 0, off), (l[3].Data + strings.Repeat("\x00", 3000))[:off])
		for ino := range l {
			if ino != 3 && m[ino] != l[ino] {
				t.Fatalf("a write changed the file %d", ino)
			}
		}
		l = m
	}
}

// shares tells whether a text's memory is a piece of another one's.
func shares(s string, whole string) bool {
	if len(s) == 0 || len(whole) == 0 {
		return false
	}
	at, from := uintptr(unsafe.Pointer(unsafe.StringData(s))), uintptr(unsafe.Pointer(unsafe.StringData(whole)))
	return at >= from && at < from+uintptr(len(whole))
}

// R3: what is handed in is not written into, nor its spare room, nor kept; what is answered is new memory.
func TestAnswersAreNewMemory(t *testing.T) {
	files := behind(t, mkdir("/d"), create("/d/f"), write("/d/f", 0, "some bytes"), symlink("/s", "d/f"), create("/g"), mkdir("/e"), link("/g", "/h"))
	spare := append(slices.Clone(files), api.Node{Kind: 7, Data: "spare"}, api.Node{Kind: 8})
	was := slices.Clone(spare)
	l := spare[:len(files):len(spare)]
	data := strings.Repeat("data", 2)
	for _, c := range []api.Call{write("/d/f", 0, data), write("/g", 0, data), write("/d/f", 4, "x"), trunc("/d/f", 3), trunc("/d/f", 30), create("/x"), mkdir("/x"), symlink("/x", data), unlink("/s"), unlink("/h"), rmdir("/e"), rename("/d/f", "/g"), rename("/d", "/e"), link("/s", "/x"), chmod("/d", 1), touch("/d", 1), read("/d/f", 0, 99), read("/d/f", 3, 4), readlink("/s"), stat("/s"), list("/"), create("/d"), create("x"), {Op: 77}} {
		m, r := plain.Do(l, c, 20)
		if !slices.Equal(spare, was) {
			t.Fatalf("%+v wrote into what was handed in", c)
		}
		for _, n := range m {
			for _, old := range l {
				if shares(n.Data, old.Data) || shares(n.Data, c.Data) || shares(r.Data, old.Data) || shares(r.Data, n.Data) {
					t.Errorf("%+v: %q shares memory", c, n.Data)
				}
			}
			for _, name := range r.Names {
				if shares(name.Name, n.Data) {
					t.Errorf("%+v: %q shares memory", c, name.Name)
				}
			}
		}
		for ino := range m {
			m[ino] = api.Node{Kind: 9}
		}
		_ = append(m, api.Node{Kind: 9}, api.Node{Kind: 9}, api.Node{Kind: 9})
		if !slices.Equal(spare, was) {
			t.Fatalf("%+v answers what was handed in", c)
		}
	}
	wrong := append(make([]api.Node, 0, 8), files[:2]...)
	m, _ := plain.Do(wrong, stat("/"), 1)
	_ = append(m, api.Node{Kind: 9})
	if wrong = wrong[:3]; wrong[2] != (api.Node{}) {
		t.Error("spare room of wrong files was answered")
	}
}

// R4: what is answered hangs on what is handed in alone.
func TestAskedAgain(t *testing.T) {
	l := behind(t, mkdir("/d"), create("/d/f"))
	one, _ := plain.Do(l, create("/x"), 9)
	plain.Do(one, unlink("/x"), 10)
	plain.Do(l, rename("/d/f", "/g"), 11)
	two, _ := plain.Do(l, create("/x"), 9)
	if !slices.Equal(one, two) {
		t.Errorf("asked again is answered %v, ahead %v", two, one)
	}
}

// R1: all numbers and texts end, and none panics.
func TestAllNumbersEnd(t *testing.T) {
	l := behind(t, mkdir("/d"), create("/f"), write("/f", 0, "abc"), symlink("/s", "s"), symlink("/t", "f"))
	ints := []int{math.MinInt, -1, 0, 1, 2, 3, 4095, 4096, 200000, 200001, 1 << 48, math.MaxInt}
	long := strings.Repeat("/a", 1<<20)
	w := newWorld()
	for _, c := range []api.Call{mkdir("/d"), create("/f"), write("/f", 0, "abc"), symlink("/s", "s"), symlink("/t", "f")} {
		w.do(c, 1)
	}
	for op := -1; op < 18; op++ {
		for _, p := range []string{"/", "/d", "/f", "/s", "/t", "/x", "", long} {
			for _, n := range ints {
				for _, c := range []api.Call{{Op: op, Path: p, Off: int64(n)}, {Op: op, Path: p, N: int64(n)}, {Op: op, Path: p, Mode: n}, {Op: op, Path: p, To: long, Data: long, Off: int64(n), N: int64(n), Mode: n}} {
					if m, r := plain.Do(l, c, 1); !plain.Right(m) || r.Code != 0 && !slices.Equal(m, l) {
						t.Errorf("%.200q is answered %d", fmt.Sprint(c), r.Code)
					}
				}
			}
		}
	}
}
