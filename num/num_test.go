package num_test

import (
	"math"
	"strings"
	"testing"
	"unsafe"

	"nautilus/api"
	"nautilus/num"
)

func wantPut(t *testing.T, n uint64, width int, want string) {
	t.Helper()
	if got, err := num.Put(n, width); got != want || err != api.OK {
		t.Errorf("Put(%d, %d) = %q, %d; want %q, 0", n, width, got, err, want)
	}
}

func refusePut(t *testing.T, n uint64, width int) {
	t.Helper()
	if got, err := num.Put(n, width); got != "" || err != api.ErrArg {
		t.Errorf("Put(%d, %d) = %q, %d; want nothing, 2", n, width, got, err)
	}
}

func wantTake(t *testing.T, s string, at int, width int, want uint64) {
	t.Helper()
	if got, err := num.Take(s, at, width); got != want || err != api.OK {
		t.Errorf("Take(%q, %d, %d) = %d, %d; want %d, 0", s, at, width, got, err, want)
	}
}

func refuseTake(t *testing.T, s string, at int, width int) {
	t.Helper()
	if got, err := num.Take(s, at, width); got != 0 || err != api.ErrArg {
		t.Errorf("Take(%q, %d, %d) = %d, %d; want 0, 2", s, at, width, got, err)
	}
}

func refuseTakeText(t *testing.T, s string, at int) {
	t.Helper()
	if got, behind, err := num.TakeText(s, at); got != "" || behind != 0 || err != api.ErrArg {
		t.Errorf("TakeText of %d bytes at %d = %d bytes, %d, %d; want nothing, 0, 2", len(s), at, len(got), behind, err)
	}
}

func refuseFit(t *testing.T, s string, size int) {
	t.Helper()
	if got, err := num.Fit(s, size); got != "" || err != api.ErrArg {
		t.Errorf("Fit of %d bytes to %d = %d bytes, %d; want nothing, 2", len(s), size, len(got), err)
	}
}

// P1.1: a number's bytes, the lowest one first.
func TestPut(t *testing.T) {
	wantPut(t, 258, 3, "\x02\x01\x00")
	wantPut(t, 0, 1, "\x00")
	wantPut(t, 0, 8, "\x00\x00\x00\x00\x00\x00\x00\x00")
	wantPut(t, 1, 1, "\x01")
	wantPut(t, 255, 1, "\xff")
	wantPut(t, 0x8000, 2, "\x00\x80")
	wantPut(t, 0x0807060504030201, 8, "\x01\x02\x03\x04\x05\x06\x07\x08")
	wantPut(t, math.MaxUint64, 8, "\xff\xff\xff\xff\xff\xff\xff\xff")
}

// P1.1: of each width the greatest number that has so many bytes, and the numbers above it.
func TestPutAtTheEdgeOfEachWidth(t *testing.T) {
	for width := 1; width <= 7; width++ {
		above := uint64(1) << (8 * width)
		wantPut(t, above-1, width, strings.Repeat("\xff", width))
		wantPut(t, above, width+1, strings.Repeat("\x00", width)+"\x01")
		refusePut(t, above, width)
		refusePut(t, math.MaxUint64, width)
		refusePut(t, 1<<63, width) // bytes 0 stand between what fits and what does not
	}
}

// P1.1: widths that are none.
func TestPutRefusesWidths(t *testing.T) {
	for _, width := range []int{0, 9, -1, 16, 64, math.MaxInt, math.MinInt} {
		refusePut(t, 0, width)
		refusePut(t, 1, width)
		refusePut(t, math.MaxUint64, width)
	}
}

// P1.1: a number is taken from where it stands, whatever stands beside it.
func TestTake(t *testing.T) {
	wantTake(t, "a\x02\x01", 1, 2, 258)
	wantTake(t, "\x02\x01\x00", 0, 3, 258)
	wantTake(t, "\x02\x01\x00", 0, 1, 2)
	wantTake(t, "\x02\x01\x00", 2, 1, 0)
	wantTake(t, "\xff\xff", 0, 1, 255)
	wantTake(t, "\x00\x80\xff", 0, 2, 0x8000)
	wantTake(t, "\x01\x02\x03\x04\x05\x06\x07\x08", 0, 8, 0x0807060504030201)
	wantTake(t, "x\xff\xff\xff\xff\xff\xff\xff\xffx", 1, 8, math.MaxUint64)
}

// P1.1: widths that are none, though bytes enough are there.
func TestTakeRefusesWidths(t *testing.T) {
	s := strings.Repeat("\x01", 80)
	for _, width := range []int{0, 9, -1, 16, 64, math.MaxInt, math.MinInt} {
		refuseTake(t, s, 0, width)
		refuseTake(t, s, 1, width)
	}
}

// P1.1: of each width places below 0, the last one that has so many bytes, and those behind it.
func TestTakePlaces(t *testing.T) {
	s := "\x01\x02\x03\x04\x05\x06\x07\x08\x09\x0a"
	for width := 1; width <= 8; width++ {
		last := len(s) - width
		if _, err := num.Take(s, last, width); err != api.OK {
			t.Errorf("Take at %d of %d bytes, %d wide: %d", last, len(s), width, err)
		}
		for _, at := range []int{-1, -width, -len(s), math.MinInt, last + 1, len(s), len(s) + 1, math.MaxInt, math.MaxInt - width + 1} {
			refuseTake(t, s, at, width)
		}
		refuseTake(t, "", 0, width)
	}
}

// P1.2: a text stands behind its length.
func TestText(t *testing.T) {
	for _, x := range []struct{ s, want string }{
		{"ab", "\x02\x00ab"},
		{"", "\x00\x00"},
		{"\x00", "\x01\x00\x00"},
		{"\xff\xfe", "\x02\x00\xff\xfe"},
		{strings.Repeat("a", 256), "\x00\x01" + strings.Repeat("a", 256)},
		{strings.Repeat("a", 65535), "\xff\xff" + strings.Repeat("a", 65535)},
	} {
		if got, err := num.Text(x.s); got != x.want || err != api.OK {
			t.Errorf("Text of %d bytes = %d bytes, %d", len(x.s), len(got), err)
		}
	}
}

// P1.2: a text of more bytes than a length can say.
func TestTextRefusesLongOnes(t *testing.T) {
	for _, size := range []int{65536, 65537, 131072} {
		if got, err := num.Text(strings.Repeat("a", size)); got != "" || err != api.ErrArg {
			t.Errorf("Text of %d bytes = %d bytes, %d; want nothing, 2", size, len(got), err)
		}
	}
}

// P1.2: a text is taken from where it stands, with the place behind it.
func TestTakeText(t *testing.T) {
	long := strings.Repeat("b", 65535)
	for _, x := range []struct {
		s      string
		at     int
		want   string
		behind int
	}{
		{"x\x02\x00abc", 1, "ab", 5},
		{"\x02\x00ab", 0, "ab", 4},
		{"\x00\x00", 0, "", 2},
		{"abc\x00\x00", 3, "", 5},
		{"\x01\x00\x00\x01\x00\xff", 3, "\xff", 6},
		{"\xff\xff" + long, 0, long, 65537},
		{"..\xff\xff" + long + "..", 2, long, 65539},
	} {
		if got, behind, err := num.TakeText(x.s, x.at); got != x.want || behind != x.behind || err != api.OK {
			t.Errorf("TakeText of %d bytes at %d = %d bytes, %d, %d; want %d bytes, %d, 0", len(x.s), x.at, len(got), behind, err, len(x.want), x.behind)
		}
	}
}

// P1.2: no text's bytes stand there: a length is cut short, or a text, or the place is none.
func TestTakeTextRefuses(t *testing.T) {
	for _, s := range []string{"", "\x00", "\x01", "\x01\x00", "\x02\x00a", "\x00\x01a", "\xff\xff" + strings.Repeat("b", 65534)} {
		refuseTakeText(t, s, 0)
	}
	s := "\x02\x00ab"
	for _, at := range []int{-1, -2, -len(s), math.MinInt, 1, 2, 3, len(s), len(s) + 1, math.MaxInt, math.MaxInt - 1} {
		refuseTakeText(t, s, at)
	}
}

// P1.3: bytes 0 stand behind what is fitted.
func TestFit(t *testing.T) {
	for _, x := range []struct {
		s    string
		size int
		want string
	}{
		{"a", 3, "a\x00\x00"},
		{"abc", 3, "abc"},
		{"", 0, ""},
		{"", 2, "\x00\x00"},
		{"\x00\xff", 3, "\x00\xff\x00"},
		{"a", 65536, "a" + strings.Repeat("\x00", 65535)},
		{strings.Repeat("a", 65536), 65536, strings.Repeat("a", 65536)},
	} {
		if got, err := num.Fit(x.s, x.size); got != x.want || err != api.OK {
			t.Errorf("Fit of %d bytes to %d = %d bytes, %d", len(x.s), x.size, len(got), err)
		}
	}
}

// P1.3: more bytes than the size, and sizes that are none.
func TestFitRefuses(t *testing.T) {
	refuseFit(t, "abc", 2)
	refuseFit(t, "a", 0)
	refuseFit(t, strings.Repeat("a", 65537), 65536)
	for _, size := range []int{65537, 1 << 40, math.MaxInt, -1, math.MinInt} {
		refuseFit(t, "", size)
		refuseFit(t, "a", size)
		refuseFit(t, strings.Repeat("a", 65537), size)
	}
}

// P1.3: are there but bytes 0 from a place on?
func TestBare(t *testing.T) {
	for _, x := range []struct {
		s    string
		from int
		want bool
	}{
		{"a\x00\x00", 1, true},
		{"a\x00\x00", 0, false},
		{"a\x00\x00", -1, false},
		{"a\x00\x00", math.MinInt, false},
		{"a\x00\x00", 2, true},
		{"a\x00\x00", 3, true},
		{"a\x00\x00", 4, true},
		{"a\x00\x00", math.MaxInt, true},
		{"\x00\x00\x01", 0, false},
		{"\x00\x00\x01", 2, false},
		{"\x00\x00\x01", 3, true},
		{"\x00\x80\x00", 1, false},
		{"\x00\x00\x00", -1, true},
		{"\x00\x00\x00", math.MinInt, true},
		{"0", 0, false},
		{"", 0, true},
		{"", -1, true},
		{"", 1, true},
	} {
		if got := num.Bare(x.s, x.from); got != x.want {
			t.Errorf("Bare(%q, %d) = %v", x.s, x.from, got)
		}
	}
}

// P1.4: of each width numbers of each count of bytes are taken as they were put, wherever they stand.
func TestNumbersComeBack(t *testing.T) {
	for width := 1; width <= 8; width++ {
		top := uint64(math.MaxUint64) >> (64 - 8*width)
		for shift := 0; shift < 8*width; shift++ {
			for _, n := range []uint64{top >> shift, uint64(1) << shift, 0x9e3779b97f4a7c15 & top >> shift} {
				s, err := num.Put(n, width)
				if err != api.OK || len(s) != width {
					t.Fatalf("Put(%d, %d) = %q, %d", n, width, s, err)
				}
				wantTake(t, s, 0, width, n)
				wantTake(t, "\xee"+s+"\xee", 1, width, n)
			}
		}
	}
}

// P1.4: what is taken of any bytes is put as these.
func TestBytesComeBack(t *testing.T) {
	s := "\x00\x01\x7f\x80\xff\x00\x00\x00\x00\x00\x00\x00\x00\x10\xfe\xff\xff\xff\xff\xff\xff\xff\xff\xff"
	for width := 1; width <= 8; width++ {
		for at := 0; at+width <= len(s); at++ {
			n, err := num.Take(s, at, width)
			if err != api.OK {
				t.Fatalf("Take at %d, %d wide: %d", at, width, err)
			}
			wantPut(t, n, width, s[at:at+width])
		}
	}
}

// P1.4: texts, one behind the other, come back as they were, and are put so again.
func TestTextsComeBack(t *testing.T) {
	texts := []string{"", "a", "\x00\x00", "\xff", strings.Repeat("c", 255), strings.Repeat("d", 256), strings.Repeat("e", 65535), ""}
	all := ""
	for _, s := range texts {
		b, err := num.Text(s)
		if err != api.OK {
			t.Fatalf("Text of %d bytes: %d", len(s), err)
		}
		all += b
	}
	at := 0
	for i, want := range texts {
		got, behind, err := num.TakeText(all, at)
		if got != want || err != api.OK {
			t.Fatalf("text %d: %d bytes, %d", i, len(got), err)
		}
		if again, err := num.Text(got); again != all[at:behind] || err != api.OK {
			t.Fatalf("text %d is not put as it was: %d", i, err)
		}
		at = behind
	}
	if at != len(all) {
		t.Errorf("the last text ends at %d of %d", at, len(all))
	}
}

func sharesMemory(a string, b string) bool {
	if a == "" || b == "" {
		return false
	}
	from, to := uintptr(unsafe.Pointer(unsafe.StringData(a))), uintptr(unsafe.Pointer(unsafe.StringData(b)))
	return from < to+uintptr(len(b)) && to < from+uintptr(len(a))
}

// R3: what is answered is new memory, even where it is what was handed in.
func TestAnswersAreNewMemory(t *testing.T) {
	s := strings.Repeat("\x03\x00abc", 8)
	if got, _ := num.Fit(s, len(s)); got != s || sharesMemory(got, s) {
		t.Error("Fit answers what was handed in")
	}
	if got, _, _ := num.TakeText(s, 5); got != "abc" || sharesMemory(got, s) {
		t.Error("TakeText answers a piece of what was handed in")
	}
	if got, _ := num.Text(s); len(got) != len(s)+2 || sharesMemory(got, s) {
		t.Error("Text answers what was handed in")
	}
}
