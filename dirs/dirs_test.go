package dirs_test

import (
	"encoding/binary"
	"fmt"
	"math"
	"math/rand/v2"
	"slices"
	"strings"
	"testing"
	"unsafe"

	"nautilus/api"
	"nautilus/dirs"
)

const (
	longest = 59    // bytes of the longest name
	most    = 20000 // bytes of the longest directory
)

// bytesOf are the bytes of entries, right or not, worked out without package num.
func bytesOf(l ...api.Name) string {
	var b []byte
	for _, n := range l {
		b = binary.LittleEndian.AppendUint32(b, n.Ino)
		b = binary.LittleEndian.AppendUint16(b, uint16(len(n.Name)))
		b = append(b, n.Name...)
	}
	return string(b)
}

func entry(name string, ino uint32) api.Name {
	return api.Name{Name: name, Ino: ino}
}

// plainName tells what a name is, byte by byte.
func plainName(s string) bool {
	for at := range len(s) {
		if s[at] == 0 || s[at] == '/' {
			return false
		}
	}
	return len(s) > 0 && len(s) < 60 && s != "." && s != ".."
}

// plainNames are the entries of a directory's bytes in their order, worked out without package num; false, if these are no directory's.
func plainNames(s string) ([]api.Name, bool) {
	var l []api.Name
	seen := map[string]bool{}
	for b := []byte(s); len(b) > 0; {
		if len(b) < 6 || len(s) > most {
			return nil, false
		}
		ino, behind := binary.LittleEndian.Uint32(b), 6+int(binary.LittleEndian.Uint16(b[4:]))
		if ino == 0 || behind > len(b) {
			return nil, false
		}
		name := string(b[6:behind])
		if !plainName(name) || seen[name] {
			return nil, false
		}
		seen[name] = true
		l = append(l, entry(name, ino))
		b = b[behind:]
	}
	return l, true
}

// rising are entries by their names, put in order by taking the lowest one again and again.
func rising(l []api.Name) []api.Name {
	left, out := slices.Clone(l), []api.Name(nil)
	for len(left) > 0 {
		lowest := 0
		for place := range left {
			if left[place].Name < left[lowest].Name {
				lowest = place
			}
		}
		out = append(out, left[lowest])
		left = slices.Delete(left, lowest, lowest+1)
	}
	return out
}

// rightNames are names, each another one.
func rightNames() []string {
	return []string{
		"a", "b", "ab", "ba", "aa", "abc", "A", "B", "Ab", "0", "10", "9", " ", "  ", "-", "_", "~", "...", "....", ".a", "a.", "..a", "a..", ". ", " .", ".. ", "..\xff", ".\x01",
		"\x01", "\x7f", "\x80", "\xff", "\xff\xfe", "\n", "a\nb", "\\", "a\\b", "*", "\"", "é", "\xc3", "日本", "\xef\xbf\xbd", "a\x01", "a ", "a-", "a\xff",
		strings.Repeat("n", longest), strings.Repeat("n", longest-1), strings.Repeat("\xff", longest), strings.Repeat(".", longest), strings.Repeat("n", longest-1) + "m",
	}
}

// wrongNames are no names.
func wrongNames() []string {
	out := []string{"", ".", "..", "/", "//", "a/", "/a", "a/b", "./", "../", "/.", "\x00", "\x00\x00", "a\x00", "\x00a", "a\x00b", ".\x00", "..\x00", "\x00/", "/\x00"}
	for _, size := range []int{60, 61, 100, 255, 256, 257, 261, 300, 511, 512, 65535, 65536, 65537, 65541, 70000} {
		out = append(out, strings.Repeat("n", size), strings.Repeat(".", size))
	}
	for _, at := range []int{0, 1, 29, 57, 58} {
		out = append(out, changed(strings.Repeat("n", longest), at, 0), changed(strings.Repeat("n", longest), at, '/'))
	}
	return out
}

// changed is a text in which one byte is another one.
func changed(s string, at int, c byte) string {
	b := []byte(s)
	b[at] = c
	return string(b)
}

// three are entries that do not rise.
func three() []api.Name {
	return []api.Name{entry("cab", 7), entry("a", 1<<32-1), entry("b", 256)}
}

// sized are entries of so many bytes in all (0, or 7 and above), as few as possible.
func sized(size int) []api.Name {
	var l []api.Name
	for size > 0 {
		next := min(size, 65)
		if rest := size - next; rest > 0 && rest < 9 { // an entry has 7 bytes or more, and names of one byte are few
			next -= 9
		}
		name := fmt.Sprintf("%04d", len(l)) + strings.Repeat("n", longest)
		l = append(l, entry(name[:next-6], uint32(len(l)+1)))
		size -= next
	}
	return l
}

// many are so many entries, in no order.
func many(count int) []api.Name {
	var l []api.Name
	for k := range count {
		l = append(l, entry(fmt.Sprint(k*7919%10007), uint32(k+1)))
	}
	return l
}

// rightOnes are the entries of directories.
func rightOnes() [][]api.Name {
	var all []api.Name
	for k, name := range rightNames() {
		all = append(all, entry(name, uint32(k+1)))
	}
	out := [][]api.Name{nil, three(), all, sized(most), sized(most - 1), many(30), {entry("a", 5), entry("b", 5)}}
	for _, ino := range []uint32{1, 2, 255, 256, 257, 1 << 16, 1 << 24, 1 << 31, math.MaxUint32} {
		out = append(out, []api.Name{entry("ab", ino)}, []api.Name{entry("z", 3), entry("y", ino), entry("x", 4)})
	}
	for _, name := range rightNames() {
		out = append(out, []api.Name{entry(name, 9)})
	}
	return out
}

// wrongOnes are no directory's bytes.
func wrongOnes() []string {
	whole := bytesOf(three()...)
	out := []string{
		"x", "\x00", whole + "x", "x" + whole, whole + "\x00", "\x00" + whole, whole + whole, whole + whole[:9], whole[1:], whole[4:], whole[6:],
		strings.Repeat("\x00", 7), strings.Repeat("\x00", most), strings.Repeat("\xff", most), strings.Repeat("\x01", 300),
		whole + bytesOf(entry("z", 0)), bytesOf(entry("z", 0)) + whole, bytesOf(entry("z", 0)),
		whole + bytesOf(entry("a", 1<<32-1)), whole + bytesOf(entry("cab", 9)), whole + bytesOf(entry("b", 3)), whole + bytesOf(entry("z", 4), entry("z", 5)),
		bytesOf(entry("a", 1), entry("a", 1)), bytesOf(entry("a", 1), entry("b", 2), entry("a", 3)), bytesOf(sized(most + 1)...), bytesOf(sized(most + 7)...), bytesOf(sized(2 * most)...), bytesOf(sized(1 << 20)...),
		"\x01\x00\x00\x00\x00\x01a",                                                      // a length with the highest byte first
		"\x01\x00\x00\x00\x01a",                                                          // a length of one byte
		"\x01\x00\x00\x00\x01\x01" + "a",                                                 // a length of 257
		"\x01\x00\x00\x00\x02\x00a",                                                      // less than its length
		"\x01\x00\x00\x00\xff\xffa",                                                      // the greatest length
		"\x01\x00\x00\x00\x3c\x00" + strings.Repeat("n", 60),                             // a name of 60 bytes
		"\x01\x00\x00\x00\x00\x00",                                                       // one of none
		"\x01\x00\x00\x00\x01\x00a\x00\x00\x00", "\x01\x00\x00\x00\x01\x00a\x02\x00\x00", // bytes behind that are no Ino
	}
	for _, name := range wrongNames() {
		if len(name) < 65536 {
			out = append(out, bytesOf(entry(name, 1)), whole+bytesOf(entry(name, 1)), bytesOf(entry(name, 1))+whole)
		}
	}
	for size := range len(whole) {
		if size != 0 && size != 9 && size != 16 { // the ends of entries
			out = append(out, whole[:size])
		}
	}
	return out
}

// short is what fits in a line of entries, the names quoted.
func short(l []api.Name) string {
	return fmt.Sprintf("%#v", l[:min(len(l), 4)])
}

func wantFind(t *testing.T, s string, name string, want uint32) {
	t.Helper()
	if got, err := dirs.Find(s, name); got != want || err != api.OK {
		t.Errorf("Find(%.80q, %.80q) = %d, %d; want %d, 0", s, name, got, err, want)
	}
}

func refuseFind(t *testing.T, s string, name string, want api.Errno) {
	t.Helper()
	if got, err := dirs.Find(s, name); got != 0 || err != want {
		t.Errorf("Find(%.80q, %.80q) = %d, %d; want 0, %d", s, name, got, err, want)
	}
}

// wantBytes holds what a call answered against the entries that were to be there.
func wantBytes(t *testing.T, what string, got string, err api.Errno, want []api.Name) {
	t.Helper()
	if got != bytesOf(want...) || err != api.OK {
		t.Errorf("%s = %.80q, %d; want %.80q, 0", what, got, err, bytesOf(want...))
	}
}

func refuseBytes(t *testing.T, what string, got string, err api.Errno, want api.Errno) {
	t.Helper()
	if got != "" || err != want {
		t.Errorf("%s = %d bytes, %d; want none, %d", what, len(got), err, want)
	}
}

func refuseAdd(t *testing.T, s string, name string, ino uint32, want api.Errno) {
	t.Helper()
	got, err := dirs.Add(s, name, ino)
	refuseBytes(t, fmt.Sprintf("Add(%.80q, %.80q, %d)", s, name, ino), got, err, want)
}

func refuseDrop(t *testing.T, s string, name string, want api.Errno) {
	t.Helper()
	got, err := dirs.Drop(s, name)
	refuseBytes(t, fmt.Sprintf("Drop(%.80q, %.80q)", s, name), got, err, want)
}

func refuseSet(t *testing.T, s string, name string, ino uint32, want api.Errno) {
	t.Helper()
	got, err := dirs.Set(s, name, ino)
	refuseBytes(t, fmt.Sprintf("Set(%.80q, %.80q, %d)", s, name, ino), got, err, want)
}

func wantList(t *testing.T, s string, want []api.Name) {
	t.Helper()
	if got, err := dirs.List(s); !slices.Equal(got, want) || err != api.OK {
		t.Errorf("List(%.80q) = %d names, %s, %d; want %d, %s, 0", s, len(got), short(got), err, len(want), short(want))
	}
}

// P11.1: which texts are names.
func TestIsName(t *testing.T) {
	for _, name := range rightNames() {
		if !dirs.IsName(name) {
			t.Errorf("IsName(%q) is false", name)
		}
	}
	for _, name := range wrongNames() {
		if dirs.IsName(name) {
			t.Errorf("IsName(%.80q) is true", name)
		}
	}
}

// P11.1: names of each length, of dots, too, and of each one and two bytes.
func TestIsNameAtEachLengthAndByte(t *testing.T) {
	for size := range 700 {
		want := size >= 1 && size <= longest
		if got := dirs.IsName(strings.Repeat("n", size)); got != want {
			t.Errorf("IsName of %d bytes is %v", size, got)
		}
		if got := dirs.IsName(strings.Repeat(".", size)); got != (want && size > 2) {
			t.Errorf("IsName of %d dots is %v", size, got)
		}
	}
	for one := range 256 {
		for two := range 256 {
			for _, s := range []string{string([]byte{byte(one)}), string([]byte{byte(one), byte(two)})} {
				if got := dirs.IsName(s); got != plainName(s) {
					t.Errorf("IsName(%q) is %v", s, got)
				}
			}
		}
		for at := range longest {
			s := changed(strings.Repeat("n", longest), at, byte(one))
			if got := dirs.IsName(s); got != plainName(s) {
				t.Errorf("IsName(%q) is %v", s, got)
			}
		}
	}
}

// P11.1: which bytes are a directory's.
func TestRight(t *testing.T) {
	for _, l := range rightOnes() {
		if !dirs.Right(bytesOf(l...)) {
			t.Errorf("Right(%.80q) is false", bytesOf(l...))
		}
	}
	for _, s := range wrongOnes() {
		if dirs.Right(s) {
			t.Errorf("Right(%.80q) is true", s)
		}
	}
}

// P11.1: there are at most 20000 bytes: at each count near that, of the longest entries and of short ones.
func TestRightAtEachSize(t *testing.T) {
	for size := most - 100; size < most+100; size++ {
		s := bytesOf(sized(size)...)
		if len(s) != size {
			t.Fatalf("%d bytes were made instead of %d", len(s), size)
		}
		if got := dirs.Right(s); got != (size <= most) {
			t.Errorf("Right of %d bytes is %v", size, got)
		}
	}
	for count := 1950; count < 2100; count++ { // of 7 to 11 bytes each: 2022 are the most that have room
		s := bytesOf(many(count)...)
		if got := dirs.Right(s); got != (len(s) <= most) {
			t.Errorf("Right of %d names, %d bytes, is %v", count, len(s), got)
		}
	}
}

// P11.1: no two names are the same, wherever they stand; their Inos have no say in it.
func TestRightAtEachPairOfNames(t *testing.T) {
	names := many(40)
	for one := range names {
		for two := range one {
			l := slices.Clone(names)
			l[one].Name = l[two].Name
			if dirs.Right(bytesOf(l...)) {
				t.Errorf("Right with %q at %d and at %d is true", l[one].Name, two, one)
			}
			l[one].Name = l[two].Name + "x"
			l[one].Ino = l[two].Ino
			if !dirs.Right(bytesOf(l...)) {
				t.Errorf("Right with %q beside it, of the same Ino, is false", l[one].Name)
			}
		}
	}
}

// P11.1, T6: with any one byte changed, what is read has these bytes, and what is not read is no directory's.
func TestRightReadsOneForm(t *testing.T) {
	for _, l := range [][]api.Name{three(), {entry("ab", 7), entry("aa", 8), entry(".", 9)}, {entry(strings.Repeat("n", longest), 3), entry("n", 258)}, {entry("..a", 1), entry("a..", 2)}} {
		s := bytesOf(l...)
		for at := range len(s) {
			for c := range 256 {
				wrong := changed(s, at, byte(c))
				names, right := plainNames(wrong)
				if got := dirs.Right(wrong); got != right {
					t.Errorf("Right(%q) is %v", wrong, got)
				}
				if right {
					wantList(t, wrong, rising(names))
				}
			}
		}
	}
}

// P11.1: each name of a directory is found, by all its bytes alone.
func TestFind(t *testing.T) {
	for _, l := range rightOnes() {
		s := bytesOf(l...)
		for _, n := range l {
			wantFind(t, s, n.Name, n.Ino)
		}
		for _, name := range rightNames() {
			if !slices.ContainsFunc(l, func(n api.Name) bool { return n.Name == name }) {
				refuseFind(t, s, name, api.ErrNone)
			}
		}
	}
	s := bytesOf(entry("abc", 7), entry("ab", 8), entry("abd", 9))
	for _, name := range []string{"a", "b", "abcd", "ABC", "ab ", " ab", "abe", "bc", "\x07", "abcab"} {
		refuseFind(t, s, name, api.ErrNone)
	}
}

// P11.1: a directory that is none, ahead of a name that is none.
func TestFindRefuses(t *testing.T) {
	for _, s := range wrongOnes() {
		for _, name := range []string{"a", "cab", "z", "", ".", "a/b", strings.Repeat("n", 60)} {
			refuseFind(t, s, name, api.ErrDir)
		}
	}
	for _, name := range wrongNames() {
		for _, l := range [][]api.Name{nil, three(), sized(most)} {
			refuseFind(t, bytesOf(l...), name, api.ErrName)
		}
	}
}

// P11.2: what the chapter's examples have.
func TestExamples(t *testing.T) {
	s, err := dirs.Add("", "ab", 7)
	if s != "\x07\x00\x00\x00\x02\x00ab" || err != api.OK {
		t.Errorf("Add of ab = %q, %d", s, err)
	}
	refuseAdd(t, s, "ab", 8, api.ErrThere)
	refuseAdd(t, s, ".", 8, api.ErrName)
}

// P11.2: what is added stands behind all others, whatever its name.
func TestAdd(t *testing.T) {
	for _, l := range rightOnes() {
		s := bytesOf(l...)
		if len(s)+65 > most {
			continue
		}
		for _, n := range []api.Name{entry("new", 1), entry("\x01new", 256), entry("\xff\xffnew", math.MaxUint32), entry(strings.Repeat("w", longest), 1<<24), entry(".new", 1<<31)} {
			got, err := dirs.Add(s, n.Name, n.Ino)
			wantBytes(t, fmt.Sprintf("Add of %q", n.Name), got, err, append(slices.Clone(l), n))
		}
	}
	for _, name := range rightNames() {
		got, err := dirs.Add("", name, 3)
		wantBytes(t, fmt.Sprintf("Add of %q", name), got, err, []api.Name{entry(name, 3)})
	}
	got, err := dirs.Add(bytesOf(three()...), "other", 7) // a file may have two names
	wantBytes(t, "Add of a file that is there", got, err, append(three(), entry("other", 7)))
}

// P11.2: as many bytes as there may be, and those above: of each size near that, and of names of each length.
func TestAddAtTheEnd(t *testing.T) {
	for size := most - 80; size <= most; size++ {
		l := sized(size)
		for _, length := range []int{1, 2, 30, longest} {
			n := entry(strings.Repeat("w", length), 9)
			if size+6+length > most {
				refuseAdd(t, bytesOf(l...), n.Name, n.Ino, api.ErrDirFull)
				continue
			}
			got, err := dirs.Add(bytesOf(l...), n.Name, n.Ino)
			wantBytes(t, fmt.Sprintf("Add of %d bytes to %d", length, size), got, err, append(l, n))
		}
	}
}

// P11.2: a directory that is none, then a name that is none, then one that is there, then an Ino 0, then no room.
func TestAddRefusesInOrder(t *testing.T) {
	for _, s := range wrongOnes() {
		for _, name := range []string{"a", "new", "", ".", "a/b"} {
			refuseAdd(t, s, name, 5, api.ErrDir)
			refuseAdd(t, s, name, 0, api.ErrDir)
		}
	}
	full := sized(most)
	for _, l := range [][]api.Name{nil, three(), full} {
		s := bytesOf(l...)
		for _, name := range wrongNames() {
			refuseAdd(t, s, name, 5, api.ErrName)
			refuseAdd(t, s, name, 0, api.ErrName)
		}
		for _, n := range l {
			refuseAdd(t, s, n.Name, 5, api.ErrThere)
			refuseAdd(t, s, n.Name, n.Ino, api.ErrThere)
			refuseAdd(t, s, n.Name, 0, api.ErrThere)
		}
		refuseAdd(t, s, "new", 0, api.ErrDir)
	}
	refuseAdd(t, bytesOf(full...), "new", 1, api.ErrDirFull)
}

// P11.2: what is dropped, at each place, is not there any more; all else is as it was.
func TestDrop(t *testing.T) {
	for _, l := range rightOnes() {
		for place, n := range l {
			got, err := dirs.Drop(bytesOf(l...), n.Name)
			wantBytes(t, fmt.Sprintf("Drop of %q", n.Name), got, err, slices.Delete(slices.Clone(l), place, place+1))
		}
	}
}

// P11.2: another Ino, at each place; all else is as it was.
func TestSet(t *testing.T) {
	for _, l := range rightOnes() {
		for place, n := range l {
			for _, ino := range []uint32{1, 300, 0x04030201, math.MaxUint32, n.Ino} {
				want := slices.Clone(l)
				want[place].Ino = ino
				got, err := dirs.Set(bytesOf(l...), n.Name, ino)
				wantBytes(t, fmt.Sprintf("Set of %q to %d", n.Name, ino), got, err, want)
			}
		}
	}
}

// P11.2: Drop and Set refuse what Find refuses, and Set, behind that, an Ino 0.
func TestDropAndSetRefuse(t *testing.T) {
	for _, s := range wrongOnes() {
		for _, name := range []string{"a", "cab", "z", "", ".", "a/b"} {
			refuseDrop(t, s, name, api.ErrDir)
			refuseSet(t, s, name, 5, api.ErrDir)
			refuseSet(t, s, name, 0, api.ErrDir)
		}
	}
	for _, l := range [][]api.Name{nil, three(), sized(most)} {
		s := bytesOf(l...)
		for _, name := range wrongNames() {
			refuseDrop(t, s, name, api.ErrName)
			refuseSet(t, s, name, 5, api.ErrName)
			refuseSet(t, s, name, 0, api.ErrName)
		}
		for _, name := range []string{"new", "ca", "cabb", "A", "ab"} {
			refuseDrop(t, s, name, api.ErrNone)
			refuseSet(t, s, name, 5, api.ErrNone)
			refuseSet(t, s, name, 0, api.ErrNone)
		}
		for _, n := range l {
			refuseSet(t, s, n.Name, 0, api.ErrDir)
		}
	}
}

// P11.2: all names, rising byte by byte, whatever the order in which they were put.
func TestList(t *testing.T) {
	wantList(t, "", nil)
	for _, l := range rightOnes() {
		wantList(t, bytesOf(l...), rising(l))
		backwards := slices.Clone(l)
		slices.Reverse(backwards)
		wantList(t, bytesOf(backwards...), rising(l))
	}
	in := []api.Name{entry("\x01", 1), entry("..a", 2), entry(".a", 3), entry("10", 4), entry("9", 5), entry("B", 6), entry("a", 7), entry("a\x01", 8), entry("a ", 9), entry("aB", 10), entry("aa", 11), entry("b", 12), entry("\x7f", 13), entry("\x80", 14), entry("\xc3\xa9", 15), entry("\xff", 16)}
	r := rand.New(rand.NewPCG(11, 2))
	for range 200 {
		l := slices.Clone(in)
		r.Shuffle(len(l), func(i, j int) { l[i], l[j] = l[j], l[i] })
		wantList(t, bytesOf(l...), in)
	}
}

// P11.2: what is no directory has no names.
func TestListRefuses(t *testing.T) {
	for _, s := range wrongOnes() {
		if got, err := dirs.List(s); len(got) != 0 || err != api.ErrDir {
			t.Errorf("List(%.80q) = %d names, %d; want none, 110", s, len(got), err)
		}
	}
}

// P11.3: adding and dropping gives back what there was.
func TestAddAndDrop(t *testing.T) {
	for _, l := range rightOnes() {
		s := bytesOf(l...)
		if len(s)+65 > most {
			continue
		}
		for _, name := range []string{"new", "\x01new", strings.Repeat("w", longest)} {
			more, err := dirs.Add(s, name, 77)
			if err != api.OK {
				t.Errorf("Add of %q = %d", name, err)
			}
			wantFind(t, more, name, 77)
			less, err := dirs.Drop(more, name)
			wantBytes(t, fmt.Sprintf("Drop of %q", name), less, err, l)
			refuseFind(t, less, name, api.ErrNone)
		}
	}
}

// inNoOrder does one of the calls, any one, of a name that may be there or not, and the same with a plain list.
func inNoOrder(t *testing.T, r *rand.Rand, s string, l []api.Name) (string, []api.Name) {
	t.Helper()
	n := entry(fmt.Sprint(r.IntN(30)), r.Uint32()>>r.IntN(32)|1)
	place := slices.IndexFunc(l, func(m api.Name) bool { return m.Name == n.Name })
	want, wanted := slices.Clone(l), api.OK
	var got string
	var err api.Errno
	switch kind := r.IntN(5); {
	case kind < 2:
		got, err = dirs.Add(s, n.Name, n.Ino)
		want = append(want, n)
		if place >= 0 {
			wanted = api.ErrThere
		}
	case kind == 2:
		got, err = dirs.Set(s, n.Name, n.Ino)
		if place < 0 {
			wanted = api.ErrNone
		} else {
			want[place] = n
		}
	default:
		got, err = dirs.Drop(s, n.Name)
		if place < 0 {
			wanted = api.ErrNone
		} else {
			want = slices.Delete(want, place, place+1)
		}
	}
	if wanted != api.OK {
		refuseBytes(t, "a call in no order", got, err, wanted)
		return s, l
	}
	wantBytes(t, "a call in no order", got, err, want)
	return got, want
}

// P11.3: what was added is found, and all others as before; what was dropped is not found: in no order, against a plain list.
func TestCallsInNoOrder(t *testing.T) {
	r := rand.New(rand.NewPCG(11, 3))
	for range 40 {
		s, l := "", []api.Name(nil)
		for range 100 {
			s, l = inNoOrder(t, r, s, l)
			for k := range 30 {
				name := fmt.Sprint(k)
				place := slices.IndexFunc(l, func(m api.Name) bool { return m.Name == name })
				if place < 0 {
					refuseFind(t, s, name, api.ErrNone)
				} else {
					wantFind(t, s, name, l[place].Ino)
				}
			}
			wantList(t, s, rising(l))
		}
	}
}

// within tells whether a text's memory is a piece of another one's.
func within(s string, whole string) bool {
	if len(s) == 0 || len(whole) == 0 {
		return false
	}
	at, from := uintptr(unsafe.Pointer(unsafe.StringData(s))), uintptr(unsafe.Pointer(unsafe.StringData(whole)))
	return at >= from && at < from+uintptr(len(whole))
}

// R3: what is answered is new memory, also where a piece of what was handed in would do.
func TestAnswersAreNewMemory(t *testing.T) {
	for _, l := range [][]api.Name{three(), sized(most), many(30)} {
		s := bytesOf(l...)
		for _, n := range l[:3] {
			dropped, _ := dirs.Drop(s, n.Name)
			same, _ := dirs.Set(s, n.Name, n.Ino)
			if within(dropped, s) || within(same, s) {
				t.Errorf("Drop or Set of %q answers what was handed in", n.Name)
			}
		}
		last, _ := dirs.Drop(s, l[len(l)-1].Name)
		if within(last, s) {
			t.Error("Drop of the last one answers what was handed in")
		}
		names, _ := dirs.List(s)
		for _, n := range names {
			if within(n.Name, s) {
				t.Errorf("List answers %q out of what was handed in", n.Name)
			}
		}
	}
}

// R3: what one call answers is another list than what the next one does.
func TestListsAreTheirOwn(t *testing.T) {
	s := bytesOf(three()...)
	one, _ := dirs.List(s)
	for k := range one {
		one[k] = entry("x", 1)
	}
	_ = append(one, entry("y", 2))
	wantList(t, s, rising(three()))
}

// R1: what is long, and no directory, is refused at once.
func TestLongOnesEnd(t *testing.T) {
	long := strings.Repeat(bytesOf(sized(most)...), 2000)
	if dirs.Right(long) || dirs.IsName(long) {
		t.Error("what is long is right")
	}
	refuseFind(t, long, long, api.ErrDir)
	refuseFind(t, "", long, api.ErrName)
	refuseAdd(t, long, "a", 1, api.ErrDir)
	refuseDrop(t, long, "a", api.ErrDir)
	refuseSet(t, long, "a", 1, api.ErrDir)
}
