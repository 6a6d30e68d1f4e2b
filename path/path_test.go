package path_test

import (
	"fmt"
	"math/rand/v2"
	"slices"
	"strings"
	"testing"
	"unsafe"

	"nautilus/api"
	"nautilus/path"
)

const (
	longest = 59   // bytes of the longest name
	most    = 1000 // bytes of the longest path
	parts   = 40   // as many as a path may have
)

// plainName tells what a name is, byte by byte, without package dirs.
func plainName(s string) bool {
	for at := range len(s) {
		if s[at] == 0 || s[at] == '/' {
			return false
		}
	}
	return len(s) > 0 && len(s) <= longest && s != "." && s != ".."
}

// plainParts are a path's parts, told from the right on: each `..` takes the next part that none further right has taken; false, if these are none.
func plainParts(s string) ([]string, bool) {
	if len(s) > most || len(s) == 0 || s[0] != '/' {
		return nil, false
	}
	var out []string
	taken, end := 0, len(s)
	for at := len(s) - 1; at >= 0; at-- {
		if s[at] != '/' {
			continue
		}
		piece := s[at+1 : end]
		end = at
		switch {
		case piece == "..":
			taken++
		case piece == "" || piece == ".":
		case !plainName(piece):
			return nil, false
		case taken > 0:
			taken--
		default:
			out = append(out, piece)
		}
	}
	slices.Reverse(out)
	return out, len(out) <= parts
}

// plainPath is the path of parts; false, if there is none.
func plainPath(l []string) (string, bool) {
	s := ""
	for _, part := range l {
		if !plainName(part) {
			return "", false
		}
		s += "/" + part
	}
	if s == "" {
		return "/", true
	}
	return s, len(l) <= parts && len(s) <= most
}

// plainUnder are the parts of a target in a directory; false, if these are none.
func plainUnder(dir []string, target string) ([]string, bool) {
	if target == "" {
		return nil, false
	}
	if target[0] == '/' {
		return plainParts(target)
	}
	s, ok := plainPath(dir)
	if !ok {
		return nil, false
	}
	return plainParts(s + "/" + target)
}

func wantSplit(t *testing.T, s string, want []string) {
	t.Helper()
	if got, err := path.Split(s); !slices.Equal(got, want) || err != api.OK {
		t.Errorf("Split(%.80q) = %.80q, %d; want %.80q, 0", s, got, err, want)
	}
}

func refuseSplit(t *testing.T, s string) {
	t.Helper()
	if got, err := path.Split(s); len(got) != 0 || err != api.ErrPath {
		t.Errorf("Split(%.80q) = %.80q, %d; want none, 120", s, got, err)
	}
}

// holdSplit holds what Split answers against what is told from the right on.
func holdSplit(t *testing.T, s string) {
	t.Helper()
	if want, ok := plainParts(s); ok {
		wantSplit(t, s, want)
	} else {
		refuseSplit(t, s)
	}
}

func wantJoin(t *testing.T, l []string, want string) {
	t.Helper()
	if got, err := path.Join(l); got != want || err != api.OK {
		t.Errorf("Join(%.80q) = %.80q, %d; want %.80q, 0", l, got, err, want)
	}
}

func refuseJoin(t *testing.T, l []string) {
	t.Helper()
	if got, err := path.Join(l); got != "" || err != api.ErrPath {
		t.Errorf("Join(%.80q) = %.80q, %d; want none, 120", l, got, err)
	}
}

func wantUnder(t *testing.T, dir []string, target string, want []string) {
	t.Helper()
	if got, err := path.Under(dir, target); !slices.Equal(got, want) || err != api.OK {
		t.Errorf("Under(%.80q, %.80q) = %.80q, %d; want %.80q, 0", dir, target, got, err, want)
	}
}

func refuseUnder(t *testing.T, dir []string, target string) {
	t.Helper()
	if got, err := path.Under(dir, target); len(got) != 0 || err != api.ErrPath {
		t.Errorf("Under(%.80q, %.80q) = %.80q, %d; want none, 120", dir, target, got, err)
	}
}

// holdUnder holds what Under answers against what is told from the right on.
func holdUnder(t *testing.T, dir []string, target string) {
	t.Helper()
	if want, ok := plainUnder(dir, target); ok {
		wantUnder(t, dir, target, want)
	} else {
		refuseUnder(t, dir, target)
	}
}

// names are so many, each of that size, and the first hundred each another one.
func names(count int, size int) []string {
	var l []string
	for k := range count {
		l = append(l, (fmt.Sprintf("%02d", k) + strings.Repeat("n", longest))[:size])
	}
	return l
}

// pathOf is a text of parts, right or not.
func pathOf(l []string) string {
	return "/" + strings.Join(l, "/")
}

// sized are the parts of a path of so many bytes, 61 or above.
func sized(size int) []string {
	var l []string
	for size > 0 {
		next := min(size, 1+longest)
		if rest := size - next; rest == 1 { // a part has a byte or more behind its slash
			next--
		}
		l = append(l, names(len(l)+1, longest)[len(l)][:next-1])
		size -= next
	}
	return l
}

// rightNames are names.
func rightNames() []string {
	return []string{"a", "ab", "A", "...", "....", ".a", "a.", "..a", "a..", "a..b", " ", ". ", " .", ".. ", " ..", "\x01", ".\x01", "\x7f", "\x80", "\xff", "..\xff", "\n", "\\", "a\\b", "*", "é", "日本", strings.Repeat("n", longest), strings.Repeat(".", longest), strings.Repeat("\xff", longest)}
}

// wrongPieces are no names, and neither left out nor takes one of them a part away; none has a slash.
func wrongPieces() []string {
	return []string{"\x00", "a\x00", "\x00a", "a\x00b", ".\x00", "..\x00", "\x00.", "\x00..", strings.Repeat("n", longest+1), strings.Repeat(".", longest+1), strings.Repeat("n", 300), strings.Repeat("n", longest-1) + "\x00"}
}

// texts goes through all texts of at most so many of these pieces.
func texts(count int, of []string, each func(string)) {
	each("")
	if count == 0 {
		return
	}
	for _, piece := range of {
		texts(count-1, of, func(s string) { each(piece + s) })
	}
}

// P12.1: what the chapter's examples have.
func TestExamples(t *testing.T) {
	wantSplit(t, "/a//b/./c/../d", []string{"a", "b", "d"})
	wantSplit(t, "/..", nil)
	refuseSplit(t, "a")
	refuseSplit(t, "")
}

// P12.1: what is left out, what takes a part away, and what is a part.
func TestSplit(t *testing.T) {
	for _, c := range []struct {
		s    string
		want string // the parts, a space between
	}{
		{"/", ""}, {"//", ""}, {"///", ""}, {"/.", ""}, {"/./", ""}, {"/./.", ""}, {"/../", ""}, {"/../..", ""}, {"/.././..//", ""},
		{"/a", "a"}, {"/a/", "a"}, {"//a", "a"}, {"/a//", "a"}, {"/./a", "a"}, {"/a/.", "a"}, {"/../a", "a"}, {"/../../a", "a"},
		{"/a/b", "a b"}, {"/a//b", "a b"}, {"/a/./b", "a b"}, {"/a/b/", "a b"}, {"/a/a", "a a"},
		{"/a/..", ""}, {"/a/../", ""}, {"/a/../..", ""}, {"/a/b/..", "a"}, {"/a/b/../..", ""}, {"/a/b/../../..", ""}, {"/a/../b", "b"}, {"/a/../../b", "b"}, {"/a/b/../c", "a c"}, {"/a/b/../../c", "c"}, {"/a/b/c/../../d/../e", "a e"},
		{"/a//..", ""}, {"/a/./..", ""}, {"/a/b//../c", "a c"}, {"/a/b/./../c", "a c"}, {"/../a/..", ""}, {"/../a/../b", "b"},
		{"/.a", ".a"}, {"/..a", "..a"}, {"/...", "..."}, {"/a/...", "a ..."}, {"/a.", "a."}, {"/a..", "a.."}, {"/.../..", ""}, {"/b/..a", "b ..a"},
	} {
		wantSplit(t, c.s, strings.Fields(c.want))
	}
}

// P12.1: what does not begin with a slash, or has a piece that is no name, wherever it stands, and even if it were taken away.
func TestSplitRefuses(t *testing.T) {
	for _, s := range []string{"", "a", "a/", "a/b", ".", "..", "./a", "../a", " /a", "\x00", "\x00/a", "\\a", "\xc0\xaf"} {
		refuseSplit(t, s)
	}
	for _, piece := range wrongPieces() {
		for _, s := range []string{"/%", "/%/", "//%", "/a/%", "/%/a", "/a/%/b", "/./%", "/../%", "/%/.", "/%/..", "/%/../a", "/a/%/..", "/a/%/../..", "/a/../%", "/%/%/../.."} {
			refuseSplit(t, strings.ReplaceAll(s, "%", piece))
		}
		refuseSplit(t, piece)
	}
}

// P12.1: all short texts of the bytes that say something, and all texts of few pieces.
func TestSplitAtEachShortText(t *testing.T) {
	hold := func(s string) { holdSplit(t, s) }
	texts(7, []string{"/", ".", "a", "\x00"}, hold)
	texts(6, []string{"/a", "/b", "/..", "/.", "/"}, hold)
}

// P12.1: parts of each length, and with each byte.
func TestSplitAtEachNameLengthAndByte(t *testing.T) {
	for _, name := range rightNames() {
		wantSplit(t, "/"+name, []string{name})
		wantSplit(t, "/x/"+name+"/y", []string{"x", name, "y"})
	}
	for size := 1; size < 200; size++ {
		holdSplit(t, "/"+strings.Repeat("n", size))
		holdSplit(t, "/a/"+strings.Repeat("n", size)+"/b")
		holdSplit(t, "/"+strings.Repeat(".", size))
		holdSplit(t, "/a/"+strings.Repeat("n", size)+"/../b")
	}
	for one := range 256 {
		c := string([]byte{byte(one)})
		for _, s := range []string{"%", "/%", "/a%b", "/%%", "/a/%", "/%/b", "%/b", "/.%", "/..%", "/%.", "/a/%.", "/a/.%"} {
			holdSplit(t, strings.ReplaceAll(s, "%", c))
		}
	}
}

// P12.1: a path has at most 1000 bytes, whatever it is made of.
func TestSplitAtEachSize(t *testing.T) {
	for size := most - 100; size < most+100; size++ {
		s := pathOf(sized(size))
		if len(s) != size {
			t.Fatalf("%d bytes were made instead of %d", len(s), size)
		}
		all := []string{s, strings.Repeat("/", size)}
		for _, unit := range []string{"/.", "/..", "/a/..", "/./", "/aaa/../"} {
			all = append(all, strings.Repeat(unit, size)[:size])
		}
		for _, s := range all {
			if size > most {
				refuseSplit(t, s)
			}
			holdSplit(t, s)
		}
	}
	wantSplit(t, strings.Repeat("/", most), nil)
	wantSplit(t, strings.Repeat("/a/..", most)[:most], nil)
	wantSplit(t, strings.Repeat("/", most-1)+"a", []string{"a"})
	refuseSplit(t, strings.Repeat("/", most+1))
	refuseSplit(t, strings.Repeat("/", most)+"a")
}

// P12.1: at most 40 parts are left in the end, how many ever were there ahead.
func TestSplitAtEachCount(t *testing.T) {
	for count := range 120 {
		l := names(count, 2)
		for up := range 125 {
			s := pathOf(l) + strings.Repeat("/..", up)
			left := max(count-up, 0)
			switch {
			case len(s) > most:
			case left <= parts:
				wantSplit(t, s, l[:left])
			default:
				refuseSplit(t, s)
			}
		}
	}
	wantSplit(t, strings.Repeat("/a/.", parts), slices.Repeat([]string{"a"}, parts))
	wantSplit(t, strings.Repeat("//a", parts), slices.Repeat([]string{"a"}, parts))
	wantSplit(t, strings.Repeat("/a", parts)+"/", slices.Repeat([]string{"a"}, parts))
	wantSplit(t, strings.Repeat("/a", parts)+"/b/../..", slices.Repeat([]string{"a"}, parts-1))
	refuseSplit(t, strings.Repeat("/a", parts+1))
	refuseSplit(t, strings.Repeat("/a", parts)+"/../b/c")
}

// P12.1: long texts of no order.
func TestSplitOfNoOrder(t *testing.T) {
	r := rand.New(rand.NewPCG(12, 1))
	pieces := append(rightNames(), "", "", ".", ".", "..", "..", "..", "..", "..", "..", "a", "b", "c", "d", "e", "f", "g", "h", "\x00")
	for range 20000 {
		s := []string{"", "", "", "", "x"}[r.IntN(5)]
		for range r.IntN(90) {
			s += "/" + pieces[r.IntN(len(pieces))]
		}
		holdSplit(t, s)
	}
}

// P12.1: the path of parts; of none it is a slash.
func TestJoin(t *testing.T) {
	wantJoin(t, nil, "/")
	wantJoin(t, []string{}, "/")
	wantJoin(t, []string{"a"}, "/a")
	wantJoin(t, []string{"a", "b"}, "/a/b")
	wantJoin(t, []string{"b", "a", "b"}, "/b/a/b")
	for _, name := range rightNames() {
		wantJoin(t, []string{name}, "/"+name)
		wantJoin(t, []string{"x", name, "y"}, "/x/"+name+"/y")
	}
}

// P12.1: parts that are no names, at each place.
func TestJoinRefuses(t *testing.T) {
	for _, piece := range append(wrongPieces(), "", ".", "..", "/", "a/", "/a", "a/b", "//", "./a", "../a") {
		for _, count := range []int{1, 2, 3, 10, parts} {
			for place := range count {
				l := names(count, 2)
				l[place] = piece
				refuseJoin(t, l)
			}
		}
	}
}

// P12.1: at most 40 parts, and a path of at most 1000 bytes.
func TestJoinAtEachCountAndSize(t *testing.T) {
	for count := 1; count < 100; count++ {
		for size := 2; size <= longest; size++ {
			l := names(count, size)
			if count <= parts && count*(1+size) <= most {
				wantJoin(t, l, pathOf(l))
			} else {
				refuseJoin(t, l)
			}
		}
	}
	for size := most - 100; size < most+100; size++ {
		l := sized(size)
		if size <= most {
			wantJoin(t, l, pathOf(l))
		} else {
			refuseJoin(t, l)
		}
	}
}

// P12.2: a target is in its directory, unless it begins with a slash.
func TestUnder(t *testing.T) {
	for _, c := range []struct {
		dir    string // the parts, a space between
		target string
		want   string
	}{
		{"", "x", "x"}, {"", ".", ""}, {"", "..", ""}, {"", "../x", "x"}, {"", "x/y", "x y"}, {"", "x/", "x"}, {"", "x//..", ""},
		{"a", "x", "a x"}, {"a", ".", "a"}, {"a", "./", "a"}, {"a", "..", ""}, {"a", "../..", ""}, {"a", "../../x", "x"}, {"a", "x/..", "a"}, {"a", "a", "a a"},
		{"a b", "x", "a b x"}, {"a b", "../x", "a x"}, {"a b", "../../x", "x"}, {"a b", "./x/./y", "a b x y"}, {"a b", "...", "a b ..."}, {"a b", "..x", "a b ..x"},
		{"a b", "/", ""}, {"a b", "/x", "x"}, {"a b", "//x", "x"}, {"a b", "/../x/y", "x y"}, {"a b", "/.", ""}, {"", "/x/y", "x y"},
	} {
		wantUnder(t, strings.Fields(c.dir), c.target, strings.Fields(c.want))
	}
}

// P12.2: a target that is empty, or has a piece that is no name; a directory that can't be joined.
func TestUnderRefuses(t *testing.T) {
	for _, dir := range [][]string{nil, {"a"}, {"a", "b"}, names(parts, 2)} {
		refuseUnder(t, dir, "")
		for _, piece := range wrongPieces() {
			for _, s := range []string{"%", "x/%", "%/x", "/%", "%/..", "/x/%", "../%"} {
				refuseUnder(t, dir, strings.ReplaceAll(s, "%", piece))
			}
		}
	}
	for _, dir := range [][]string{{""}, {"."}, {".."}, {"a", ".."}, {"/"}, {"/a"}, {"a/b"}, {"a", "", "b"}, {"\x00"}, names(parts+1, 2), sized(most + 1), {strings.Repeat("n", longest+1)}} {
		for _, target := range []string{"", "x", ".", "..", "../..", "x/..", "\x00"} {
			holdUnder(t, dir, target)
		}
	}
	refuseUnder(t, []string{""}, "x")
	refuseUnder(t, []string{"a", ".."}, "x")
	refuseUnder(t, []string{"a/b"}, "x")
	refuseUnder(t, names(parts+1, 2), "..")
	refuseUnder(t, sized(most+1), "..")
}

// P12.2: of a target that begins with a slash the directory has no say, not even one that is none.
func TestUnderFromTheRoot(t *testing.T) {
	for _, dir := range [][]string{nil, {"a"}, {""}, {".."}, {"a/b"}, {"\x00"}, names(parts+1, 2), sized(most), sized(most + 1), names(2000, 2)} {
		for _, target := range []string{"/", "/x", "/x/../y", "/..", "/\x00", strings.Repeat("/x", parts), strings.Repeat("/x", parts+1), strings.Repeat("/", most), strings.Repeat("/", most+1), pathOf(sized(most))} {
			if want, ok := plainParts(target); ok {
				wantUnder(t, dir, target, want)
			} else {
				refuseUnder(t, dir, target)
			}
		}
	}
}

// P12.2: the path that a directory and a target make has at most 1000 bytes, and 40 parts in the end; that of no parts is a slash, and one more stands behind it.
func TestUnderAtTheEnd(t *testing.T) {
	for size := most - 10; size < most+10; size++ {
		for _, dir := range [][]string{nil, {"a"}, {"a", "b"}, sized(500)} {
			s, _ := plainPath(dir)
			rest := size - len(s) - 1
			target := strings.Repeat("./", most)[:rest]
			if size <= most {
				wantUnder(t, dir, target, dir)
			} else {
				refuseUnder(t, dir, target)
			}
			holdUnder(t, dir, strings.Repeat("../b", most)[:rest])
		}
		dir := sized(size)
		holdUnder(t, dir, "x")
		holdUnder(t, dir, "..")
		holdUnder(t, dir, ".")
	}
	wantUnder(t, nil, "."+strings.Repeat("/", most-3), nil)
	refuseUnder(t, nil, "."+strings.Repeat("/", most-2))
	for count := range 60 {
		for _, target := range []string{"x", "x/y", "..", "../x", "../x/y", "x/..", "x/y/../..", "."} {
			holdUnder(t, names(count, 2), target)
		}
	}
	wantUnder(t, names(parts, 2), "x/..", names(parts, 2))
	wantUnder(t, names(parts, 2), "../x", append(names(parts-1, 2), "x"))
	refuseUnder(t, names(parts, 2), "x")
}

// P12.2: all short targets, in directories of few parts.
func TestUnderAtEachShortTarget(t *testing.T) {
	for _, dir := range [][]string{nil, {"a"}, {"a", "b"}, {""}} {
		texts(6, []string{"/", ".", "a", "\x00"}, func(s string) { holdUnder(t, dir, s) })
	}
}

// P12.2: whether one is the other one, or its front, of all short lists, of texts that are no names, too.
func TestWithin(t *testing.T) {
	var lists [][]string
	texts(4, []string{"a;", "b;", ";", "ab;", "/;"}, func(s string) {
		l := strings.Split(s, ";")
		lists = append(lists, l[:len(l)-1])
	})
	for _, a := range lists {
		for _, b := range lists {
			want := true
			for place, part := range a {
				want = want && place < len(b) && b[place] == part
			}
			if got := path.Within(a, b); got != want {
				t.Errorf("Within(%q, %q) is %v", a, b, got)
			}
		}
	}
}

// P12.2: lists of none, of many, and those that differ at one place alone.
func TestWithinOfManyParts(t *testing.T) {
	if !path.Within(nil, nil) || !path.Within([]string{}, nil) || !path.Within(nil, []string{}) || !path.Within(nil, []string{"a"}) || path.Within([]string{"a"}, nil) || path.Within([]string{""}, nil) {
		t.Error("Within of none")
	}
	whole := names(99, 7)
	for count := range len(whole) {
		if !path.Within(whole[:count], whole) || path.Within(whole, whole[:count]) || count > 0 && path.Within(whole[1:count+1], whole) {
			t.Errorf("Within of %d of many", count)
		}
		other := slices.Clone(whole)
		other[count] += "x"
		if path.Within(whole, other) || path.Within(other, whole) || !path.Within(whole[:count], other) || path.Within(whole[:count+1], other) {
			t.Errorf("Within of another one at %d", count)
		}
	}
}

// P12.3: what was joined is split as it was.
func TestJoinedIsSplit(t *testing.T) {
	all := [][]string{nil, {"a"}, names(parts, 2), names(parts, 24), names(16, longest), sized(most), sized(most - 1), {"...", "..a", "a.."}}
	for _, name := range rightNames() {
		all = append(all, []string{name}, []string{name, name}, []string{"x", name})
	}
	r := rand.New(rand.NewPCG(12, 3))
	for range 500 {
		var l []string
		for range r.IntN(parts + 1) {
			l = append(l, rightNames()[r.IntN(27)])
		}
		all = append(all, l)
	}
	for _, l := range all {
		s, err := path.Join(l)
		if err != api.OK {
			t.Errorf("Join(%.80q) = %d", l, err)
		}
		wantSplit(t, s, l)
		wantUnder(t, []string{"other"}, s, l)
		if !path.Within(l, l) {
			t.Errorf("%.80q is not within itself", l)
		}
	}
}

// P12.3: paths of the same parts are joined alike, and so to a path that is split alike.
func TestSameParts(t *testing.T) {
	for first, same := range map[string][]string{
		"/":    {"//", "/.", "/..", "/a/..", "/a/b/../.."},
		"/a":   {"/a/", "//a", "/./a", "/a/.", "/../a", "/b/../a", "/a/b/.."},
		"/a/b": {"/a//b/", "/a/./b", "/a/c/../b", "/c/../a/b", "/a/b/c/..", "/../a/b/."},
	} {
		for _, s := range same {
			l, _ := path.Split(s)
			wantJoin(t, l, first)
			wantSplit(t, first, l)
		}
	}
}

// within tells whether a text's memory is a piece of another one's.
func within(s string, whole string) bool {
	if len(s) == 0 || len(whole) == 0 {
		return false
	}
	at, from := uintptr(unsafe.Pointer(unsafe.StringData(s))), uintptr(unsafe.Pointer(unsafe.StringData(whole)))
	return at >= from && at < from+uintptr(len(whole))
}

// R3: what is answered is new memory, also where a piece of what was handed in would do.
func TestAnswersAreNewMemory(t *testing.T) {
	dir, s := []string{strings.Repeat("d", 2)}, strings.Repeat("/name", 3)
	split, _ := path.Split(s)
	under, _ := path.Under(dir, s)
	joined, _ := path.Join(dir)
	behind, _ := path.Under(dir, s[1:])
	for _, part := range slices.Concat(split, under, behind) {
		if within(part, s) || within(part, dir[0]) {
			t.Errorf("%q is a piece of what was handed in", part)
		}
	}
	if within(joined, dir[0]) {
		t.Error("Join answers what was handed in")
	}
}

// R3: lists have no spare room, so that what was taken away is not to be seen, and nobody else's room is written into; what was handed in stays.
func TestListsAreTheirOwn(t *testing.T) {
	for _, s := range []string{"/", "/a", "/a/b/c", "/a/b/c/..", "/a/..", strings.Repeat("/a", 33) + strings.Repeat("/..", 20)} {
		one, _ := path.Split(s)
		if len(one) != cap(one) {
			t.Errorf("Split(%q) has room for %d", s, cap(one))
		}
		for k := range one {
			one[k] = "x"
		}
		_ = append(one, "y")
		holdSplit(t, s)
	}
	dir := []string{"a", "b", "c", "d"}
	got, _ := path.Under(dir[:2], "x/y/..")
	_ = append(got, "z")
	if s, _ := path.Join(dir[:2]); s != "/a/b" || !path.Within(dir[:2], dir) || len(got) != cap(got) || !slices.Equal(dir, []string{"a", "b", "c", "d"}) {
		t.Errorf("what was handed in is %q, Join is %q, Under has room for %d", dir, s, cap(got))
	}
}

// R1: what is long is refused.
func TestLongOnesEnd(t *testing.T) {
	long, many := strings.Repeat("/a", 1<<20), slices.Repeat([]string{"a"}, 1<<20)
	for _, s := range []string{long, long[1:], strings.Repeat("a", 1<<20), strings.Repeat("/", 1<<20), strings.Repeat("../", 1<<20), strings.Repeat("\x00", 1<<20)} {
		refuseSplit(t, s)
		refuseUnder(t, nil, s)
		refuseUnder(t, many, s)
		refuseJoin(t, []string{s})
	}
	refuseJoin(t, many)
	refuseUnder(t, many, "x")
	if !path.Within(many, many) || path.Within(many, many[1:]) || !path.Within(many[1:], many) {
		t.Error("Within of many")
	}
}
