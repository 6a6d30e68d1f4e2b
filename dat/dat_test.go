package dat_test

import (
	"encoding/binary"
	"math"
	"math/rand/v2"
	"slices"
	"strings"
	"testing"
	"unsafe"

	"nautilus/api"
	"nautilus/dat"
)

const (
	greatest = 1<<48 - 1 // the greatest Start and End
	most     = 1860      // places of the longest table
)

// at is what stands at a block from a checkpoint on.
func at(phys uint32, start uint64) api.Trans {
	return api.Trans{Phys: phys, Start: start}
}

// upTo is what stood at a block from a checkpoint on, ahead of another one.
func upTo(phys uint32, start uint64, end uint64) api.Trans {
	return api.Trans{Phys: phys, Start: start, End: end}
}

// table is a free first place, and these behind it.
func table(l ...api.Trans) []api.Trans {
	return append([]api.Trans{{}}, l...)
}

// full is a table of so many places, all but the first one in use.
func full(places int) []api.Trans {
	l := make([]api.Trans, places)
	for vbn := 1; vbn < places; vbn++ {
		l[vbn] = at(16+uint32(vbn), uint64(vbn))
	}
	return l
}

// with is the table with another place.
func with(l []api.Trans, vbn int, t api.Trans) []api.Trans {
	out := slices.Clone(l)
	out[vbn] = t
	return out
}

func rightPlaces() []api.Trans {
	return []api.Trans{
		{}, at(16, 1), at(4095, 1), at(17, greatest), at(2048, 1<<47), at(255, 255), at(256, 256),
		upTo(16, 1, 2), upTo(16, 1, greatest), upTo(4095, greatest-1, greatest), upTo(1000, 5, 6), upTo(1000, 5, 1<<40),
	}
}

// wrongPlaces are none of any right table.
func wrongPlaces() []api.Trans {
	out := []api.Trans{{Start: 1}, {End: 1}, {Start: 1, End: 2}, {Phys: 16}, {Phys: 16, End: 2}, {Start: greatest}, {Phys: 1}}
	for _, phys := range []uint32{0, 1, 14, 15, 4096, 4097, 4112, 8192, 65552, 1 << 16, 1 << 31, math.MaxUint32} {
		out = append(out, at(phys, 1), upTo(phys, 1, 2), upTo(phys, 3, greatest))
	}
	for _, start := range []uint64{0, greatest + 1, greatest + 2, 1<<48 + 1<<40, 1 << 63, math.MaxUint64} {
		out = append(out, at(16, start), upTo(16, start, start+1), upTo(16, start, 3))
	}
	for _, end := range []uint64{1, 4, 5, greatest + 1, greatest + 2, 1<<48 + 6, 1 << 63, math.MaxUint64} {
		out = append(out, upTo(16, 5, end))
	}
	return append(out, upTo(16, greatest, greatest), upTo(16, greatest, greatest+1), upTo(16, greatest, greatest-1))
}

func rightTables() [][]api.Trans {
	out := [][]api.Trans{table(), table(at(16, 1)), table(rightPlaces()...), make([]api.Trans, 2), make([]api.Trans, most), full(most), full(31), full(32), full(62), full(63)}
	for _, p := range rightPlaces() {
		out = append(out, table(p), table(p, p), table(api.Trans{}, p, api.Trans{}), with(full(most), most-1, p), with(make([]api.Trans, 40), 31, p))
	}
	return out
}

// wrongTables are none: of too few or too many places, with a first one in use, or a wrong one.
func wrongTables() [][]api.Trans {
	out := [][]api.Trans{nil, {}, make([]api.Trans, most+1), make([]api.Trans, 2*most), make([]api.Trans, 65537), full(most + 1)}
	for _, p := range rightPlaces()[1:] {
		out = append(out, []api.Trans{p}, []api.Trans{p, {}}, []api.Trans{p, at(16, 1)}, with(make([]api.Trans, most), 0, p))
	}
	for _, p := range wrongPlaces() {
		out = append(out, []api.Trans{p}, table(p), table(at(16, 1), p), table(p, at(16, 1)), table(api.Trans{}, p, api.Trans{}))
		for _, place := range []int{0, 1, 30, 31, 1000, most - 1} {
			out = append(out, with(make([]api.Trans, most), place, p))
		}
	}
	return out
}

// short is what fits in a line of a table.
func short(l []api.Trans) []api.Trans {
	return l[:min(len(l), 12)]
}

// bytesOf are the blocks of a table, right or not, worked out without package num.
func bytesOf(l []api.Trans) []string {
	var out []string
	for from := 0; from < len(l); from += 31 {
		var b []byte
		for _, p := range l[from:min(from+31, len(l))] {
			var start, end [8]byte
			binary.LittleEndian.PutUint64(start[:], p.Start)
			binary.LittleEndian.PutUint64(end[:], p.End)
			b = binary.LittleEndian.AppendUint32(b, p.Phys)
			b = append(append(b, start[:6]...), end[:6]...)
		}
		out = append(out, string(b)+strings.Repeat("\x00", 508-len(b)))
	}
	return out
}

// trimmed is a table without free places at its end.
func trimmed(l []api.Trans) []api.Trans {
	for len(l) > 1 && l[len(l)-1] == (api.Trans{}) {
		l = l[:len(l)-1]
	}
	return l
}

func wantTable(t *testing.T, what string, got []api.Trans, err api.Errno, want []api.Trans) {
	t.Helper()
	if err != api.OK || !slices.Equal(got, want) {
		t.Errorf("%s = %d places, %v, %d; want %d places, %v, 0", what, len(got), short(got), err, len(want), short(want))
	}
}

func refuseTable(t *testing.T, what string, got []api.Trans, err api.Errno, want api.Errno) {
	t.Helper()
	if err != want || len(got) != 0 {
		t.Errorf("%s = %d places, %v, %d; want none, %d", what, len(got), short(got), err, want)
	}
}

func wantBegin(t *testing.T, l []api.Trans, phys uint32, cp uint64, place uint32) []api.Trans {
	t.Helper()
	before := slices.Clone(l)
	got, vbn, err := dat.Begin(l, phys, cp)
	want := slices.Clone(l)
	if int(place) == len(l) {
		want = append(want, at(phys, cp))
	} else {
		want[place] = at(phys, cp)
	}
	wantTable(t, "Begin", got, err, want)
	if vbn != place {
		t.Errorf("Begin = place %d; want %d", vbn, place)
	}
	if !slices.Equal(l, before) {
		t.Errorf("Begin has written into what was handed in")
	}
	return got
}

func refuseBegin(t *testing.T, l []api.Trans, phys uint32, cp uint64, want api.Errno) {
	t.Helper()
	got, vbn, err := dat.Begin(l, phys, cp)
	refuseTable(t, "Begin", got, err, want)
	if vbn != 0 {
		t.Errorf("Begin = place %d beside %d", vbn, err)
	}
}

// P8.1: which tables are right.
func TestRight(t *testing.T) {
	for _, l := range rightTables() {
		if !dat.Right(l) {
			t.Errorf("Right of %d places, %v, is false", len(l), short(l))
		}
	}
	for _, l := range wrongTables() {
		if dat.Right(l) {
			t.Errorf("Right of %d places, %v, is true", len(l), short(l))
		}
	}
}

// P8.1: there are 1 to 1860 places, free or not: at each count near these.
func TestRightAtEachCount(t *testing.T) {
	long := full(2000)
	for count := range len(long) + 1 {
		want := count >= 1 && count <= most
		if got := dat.Right(long[:count]); got != want {
			t.Errorf("Right of %d places in use is %v", count, got)
		}
		if got := dat.Right(make([]api.Trans, count)); got != want {
			t.Errorf("Right of %d free places is %v", count, got)
		}
	}
}

// P8.1: each block is one from 16 on, below 4096: at all near these, with and without an End.
func TestRightAtEachBlock(t *testing.T) {
	for phys := range uint32(9000) {
		want := phys >= 16 && phys < 4096
		if got := dat.Right(table(at(phys, 7))); got != want {
			t.Errorf("Right with the block %d is %v", phys, got)
		}
		if got := dat.Right(table(upTo(phys, 7, 8))); got != want {
			t.Errorf("Right with the block %d, up to 8, is %v", phys, got)
		}
	}
}

// P8.1: End is 0 or above Start, which is 1 or above: at all small numbers, and at those near 2^48.
func TestRightAtEachCheckpoint(t *testing.T) {
	for _, base := range []uint64{0, greatest - 4} {
		for start := base; start < base+10; start++ {
			for end := base; end < base+10; end++ {
				want := start >= 1 && start <= greatest && (end == 0 || end > start && end <= greatest)
				if got := dat.Right(table(upTo(16, start, end))); got != want {
					t.Errorf("Right from %d up to %d is %v", start, end, got)
				}
			}
		}
	}
}

// P8.1: what begins stands at the lowest free place but the first one, or at one more.
func TestBegin(t *testing.T) {
	free := api.Trans{}
	wantBegin(t, table(), 16, 1, 1)
	wantBegin(t, table(free), 16, 1, 1)
	wantBegin(t, table(free, free), 4095, greatest, 1)
	wantBegin(t, table(at(16, 1)), 17, 2, 2)
	wantBegin(t, table(at(16, 1), free, at(17, 1)), 18, 3, 2)
	wantBegin(t, table(at(16, 1), free, at(17, 1), free), 18, 3, 2)
	wantBegin(t, table(free, at(16, 1)), 16, 1, 1) // a block may stand twice
	wantBegin(t, table(upTo(16, 1, 2)), 17, 2, 2)  // what has ended is not free
	wantBegin(t, table(at(16, 1), free), 17, 2, 2)
	wantBegin(t, full(31), 16, 1, 31)
	wantBegin(t, full(most-1), 16, 1, most-1)
	for _, place := range []int{1, 2, 30, 31, 62, 930, most - 2, most - 1} {
		wantBegin(t, with(full(most), place, free), 100, 100, uint32(place))
	}
}

// P8.1: a table fills place by place, and then is full, whatever were to begin.
func TestBeginUntilFull(t *testing.T) {
	l := table()
	for vbn := uint32(1); vbn < most; vbn++ {
		l = wantBegin(t, l, 16+vbn, uint64(vbn), vbn)
	}
	if !slices.Equal(l, full(most)) {
		t.Errorf("the full table is %v", short(l))
	}
	for _, phys := range []uint32{0, 15, 16, 4095, 4096, math.MaxUint32} {
		for _, cp := range []uint64{0, 1, greatest, greatest + 1, math.MaxUint64} {
			refuseBegin(t, l, phys, cp, api.ErrDatFull)
		}
	}
}

// P8.1: neither of both is 0, and both are right.
func TestBeginRefuses(t *testing.T) {
	for _, l := range [][]api.Trans{table(), table(api.Trans{}), full(40), full(most - 1), with(full(most), 77, api.Trans{})} {
		for _, phys := range []uint32{0, 1, 15, 4096, 4097, 65552, math.MaxUint32} {
			refuseBegin(t, l, phys, 0, api.ErrDat)
			refuseBegin(t, l, phys, 1, api.ErrDat)
			refuseBegin(t, l, phys, greatest+1, api.ErrDat)
		}
		for _, cp := range []uint64{0, greatest + 1, 1<<48 + 1<<20, 1 << 63, math.MaxUint64} {
			refuseBegin(t, l, 16, cp, api.ErrDat)
			refuseBegin(t, l, 4095, cp, api.ErrDat)
		}
	}
	for _, l := range wrongTables() {
		refuseBegin(t, l, 16, 1, api.ErrDat)
		refuseBegin(t, l, 0, 0, api.ErrDat)
	}
}

// P8.1: a number stands for another block, from when on and up to when it stood; others stay.
func TestMove(t *testing.T) {
	l := table(at(16, 1), upTo(17, 2, 5), api.Trans{}, at(18, 3))
	for _, phys := range []uint32{16, 17, 20, 4095} {
		got, err := dat.Move(l, 1, phys)
		wantTable(t, "Move of 1", got, err, with(l, 1, at(phys, 1)))
		got, err = dat.Move(l, 2, phys)
		wantTable(t, "Move of 2", got, err, with(l, 2, upTo(phys, 2, 5)))
		got, err = dat.Move(l, 4, phys)
		wantTable(t, "Move of 4", got, err, with(l, 4, at(phys, 3)))
	}
	got, err := dat.Move(full(most), most-1, 16)
	wantTable(t, "Move of the last one", got, err, with(full(most), most-1, at(16, most-1)))
	got, err = dat.Move(table(at(16, 1), api.Trans{}), 1, 20)
	wantTable(t, "Move ahead of a free one", got, err, table(at(20, 1), api.Trans{}))
}

// P8.1: a wrong table, then numbers that are none, then blocks that are none.
func TestMoveRefuses(t *testing.T) {
	for _, l := range wrongTables() {
		for _, vbn := range []uint32{0, 1, 2, most, math.MaxUint32} {
			for _, phys := range []uint32{0, 16} {
				got, err := dat.Move(l, vbn, phys)
				refuseTable(t, "Move in a wrong one", got, err, api.ErrDat)
			}
		}
	}
	l := table(at(16, 1), upTo(17, 2, 5), api.Trans{}, at(18, 3), api.Trans{})
	for _, vbn := range []uint32{0, 3, 5, 6, 7, most - 1, most, 1 << 31, math.MaxUint32} {
		for _, phys := range []uint32{0, 15, 16, 4096} {
			got, err := dat.Move(l, vbn, phys)
			refuseTable(t, "Move of none", got, err, api.ErrDatNone)
		}
	}
	got, err := dat.Move(full(most), most, 16)
	refuseTable(t, "Move behind the last one", got, err, api.ErrDatNone)
	for _, vbn := range []uint32{1, 2, 4} {
		for _, phys := range []uint32{0, 1, 15, 4096, 4097, 65552, 1 << 31, math.MaxUint32} {
			got, err := dat.Move(l, vbn, phys)
			refuseTable(t, "Move to no block", got, err, api.ErrDat)
		}
	}
}

// P8.1: what has ended stays at its place; what ends where it began is free.
func TestEnd(t *testing.T) {
	l := table(at(16, 1), upTo(17, 2, 5), api.Trans{}, at(18, 3))
	for _, cp := range []uint64{2, 3, 4, 1 << 40, greatest} {
		got, err := dat.End(l, 1, cp)
		wantTable(t, "End of 1", got, err, with(l, 1, upTo(16, 1, cp)))
	}
	for _, cp := range []uint64{4, 5, greatest} {
		got, err := dat.End(l, 4, cp)
		wantTable(t, "End of 4", got, err, with(l, 4, upTo(18, 3, cp)))
	}
	got, err := dat.End(l, 1, 1)
	wantTable(t, "End of 1 at its Start", got, err, with(l, 1, api.Trans{}))
	got, err = dat.End(l, 4, 3)
	wantTable(t, "End of the last one at its Start", got, err, with(l, 4, api.Trans{})) // its place stays
	got, err = dat.End(table(at(16, greatest)), 1, greatest)
	wantTable(t, "End at the greatest Start", got, err, table(api.Trans{}))
	got, err = dat.End(full(most), most-1, most)
	wantTable(t, "End of the last place", got, err, with(full(most), most-1, upTo(16+most-1, most-1, most)))
}

// P8.1: a wrong table, then numbers that are none or have an End, then checkpoints that are none.
func TestEndRefuses(t *testing.T) {
	for _, l := range wrongTables() {
		for _, vbn := range []uint32{0, 1, 2, most, math.MaxUint32} {
			for _, cp := range []uint64{0, 1, 6} {
				got, err := dat.End(l, vbn, cp)
				refuseTable(t, "End in a wrong one", got, err, api.ErrDat)
			}
		}
	}
	l := table(at(16, 4), upTo(17, 2, 5), api.Trans{}, at(18, greatest), api.Trans{})
	for _, vbn := range []uint32{0, 2, 3, 5, 6, 7, most - 1, most, 1 << 31, math.MaxUint32} {
		for _, cp := range []uint64{0, 1, 2, 3, 5, 6, greatest, greatest + 1, math.MaxUint64} {
			got, err := dat.End(l, vbn, cp)
			refuseTable(t, "End of none", got, err, api.ErrDatNone)
		}
	}
	for _, cp := range []uint64{0, 1, 3, greatest + 1, greatest + 2, 1<<48 + 5, 1 << 63, math.MaxUint64} {
		got, err := dat.End(l, 1, cp)
		refuseTable(t, "End at none", got, err, api.ErrDat)
		got, err = dat.End(l, 4, cp)
		refuseTable(t, "End at none", got, err, api.ErrDat)
	}
}

// plainLives asks checkpoint by checkpoint, from a Start on.
func plainLives(p api.Trans, cps []uint64) bool {
	if p == (api.Trans{}) {
		return false
	}
	lives := p.End == 0
	for _, cp := range cps {
		lives = lives || cp >= p.Start && cp < p.End
	}
	return lives
}

// P8.2: what has no End lives whatever is kept, what has one by those from its Start on ahead of it.
func TestLives(t *testing.T) {
	for _, x := range []struct {
		p    api.Trans
		cps  []uint64
		want bool
	}{
		{api.Trans{}, nil, false},
		{api.Trans{}, []uint64{0, 1, 2}, false},
		{at(16, 5), nil, true},
		{at(16, 5), []uint64{}, true},
		{at(16, 5), []uint64{1, 2}, true},
		{at(16, greatest), []uint64{1}, true},
		{upTo(16, 1, 3), nil, false},
		{upTo(16, 1, 3), []uint64{}, false},
		{upTo(16, 1, 3), []uint64{0}, false},
		{upTo(16, 1, 3), []uint64{1}, true},
		{upTo(16, 1, 3), []uint64{2}, true},
		{upTo(16, 1, 3), []uint64{3}, false},
		{upTo(16, 1, 3), []uint64{4, 5, math.MaxUint64}, false},
		{upTo(16, 1, 3), []uint64{0, 3, 9, 2}, true}, // in no order
		{upTo(16, 1, 3), []uint64{9, 8, 7, 1}, true},
		{upTo(16, 1, 3), []uint64{2, 9, 9, 9}, true},
		{upTo(16, 5, 9), []uint64{1, 4, 9, 12}, false}, // on both sides, not between
		{upTo(16, greatest-1, greatest), []uint64{greatest - 1}, true},
		{upTo(16, greatest-1, greatest), []uint64{greatest - 2, greatest}, false},
		{api.Trans{Start: 3}, nil, true}, // wrong ones, by the same words
		{api.Trans{Start: 3, End: 2}, []uint64{2}, false},
		{api.Trans{Phys: 1, End: 2}, []uint64{0}, true},
		{upTo(16, 5, math.MaxUint64), []uint64{math.MaxUint64 - 1}, true},
		{upTo(16, 5, math.MaxUint64), []uint64{math.MaxUint64}, false},
	} {
		if got := dat.Lives(x.p, x.cps); got != x.want {
			t.Errorf("Lives(%v, %v) = %v", x.p, x.cps, got)
		}
	}
}

// P8.2: by one checkpoint alone, and by two: at all small numbers.
func TestLivesAtSmallNumbers(t *testing.T) {
	for start := range uint64(6) {
		for end := range uint64(7) {
			p := upTo(16, start, end)
			for one := range uint64(8) {
				for two := range uint64(8) {
					cps := []uint64{one, two}
					if got := dat.Lives(p, cps); got != plainLives(p, cps) {
						t.Errorf("Lives(%v, %v) = %v", p, cps, got)
					}
					if got := dat.Lives(p, cps[:1]); got != plainLives(p, cps[:1]) {
						t.Errorf("Lives(%v, %v) = %v", p, cps[:1], got)
					}
				}
			}
		}
	}
}

func wantSweep(t *testing.T, l []api.Trans, cps []uint64, want []api.Trans, count int) {
	t.Helper()
	before, kept := slices.Clone(l), slices.Clone(cps)
	got, freed, err := dat.Sweep(l, cps)
	wantTable(t, "Sweep", got, err, want)
	if freed != count {
		t.Errorf("Sweep of %v by %v has freed %d; want %d", short(l), cps, freed, count)
	}
	if !slices.Equal(l, before) || !slices.Equal(cps, kept) {
		t.Errorf("Sweep has written into what was handed in")
	}
}

// P8.2: those that do not live are free, and at the end gone; free ones are not counted again.
func TestSweep(t *testing.T) {
	free := api.Trans{}
	wantSweep(t, table(), nil, table(), 0)
	wantSweep(t, make([]api.Trans, 50), []uint64{1}, table(), 0)
	wantSweep(t, make([]api.Trans, most), nil, table(), 0)
	wantSweep(t, table(at(16, 1)), nil, table(at(16, 1)), 0)
	wantSweep(t, table(at(16, 1), free, free), nil, table(at(16, 1)), 0)
	wantSweep(t, table(free, at(16, 1)), nil, table(free, at(16, 1)), 0)
	wantSweep(t, table(upTo(16, 1, 3)), []uint64{2}, table(upTo(16, 1, 3)), 0)
	wantSweep(t, table(upTo(16, 1, 3)), []uint64{5}, table(), 1)
	wantSweep(t, table(upTo(16, 1, 3)), nil, table(), 1)
	l := table(upTo(16, 1, 3), at(17, 1), free, upTo(18, 2, 4), upTo(19, 4, 6), free)
	wantSweep(t, l, []uint64{3}, table(free, at(17, 1), free, upTo(18, 2, 4)), 2)
	wantSweep(t, l, []uint64{5, 1}, table(upTo(16, 1, 3), at(17, 1), free, free, upTo(19, 4, 6)), 1)
	wantSweep(t, l, []uint64{2, 4}, l[:6], 0)
	wantSweep(t, l, []uint64{6}, table(free, at(17, 1)), 3)
	wantSweep(t, full(most), nil, full(most), 0)
	dead := slices.Repeat([]api.Trans{upTo(16, 1, 3)}, most-1)
	wantSweep(t, table(dead...), []uint64{3, 4}, table(), most-1)
	wantSweep(t, table(dead...), []uint64{1}, table(dead...), 0)
	wantSweep(t, with(table(dead...), 40, at(20, 2)), nil, with(make([]api.Trans, 41), 40, at(20, 2)), most-2)
	wantSweep(t, with(table(dead...), most-1, at(20, 2)), nil, with(make([]api.Trans, most), most-1, at(20, 2)), most-2)
}

// P8.2: a wrong table is not swept.
func TestSweepRefuses(t *testing.T) {
	for _, l := range wrongTables() {
		for _, cps := range [][]uint64{nil, {1}, {1, 2, greatest}} {
			got, count, err := dat.Sweep(l, cps)
			refuseTable(t, "Sweep", got, err, api.ErrDat)
			if count != 0 {
				t.Errorf("Sweep has freed %d beside %d", count, err)
			}
		}
	}
}

// P8.3: the bytes of a block, written out.
func TestEncode(t *testing.T) {
	zeros := strings.Repeat("\x00", 508)
	l := table(
		upTo(0x0302, 0x161514131211, 0x262524232221),
		api.Trans{},
		at(4095, greatest),
	)
	want := zeros[:16] +
		"\x02\x03\x00\x00" + "\x11\x12\x13\x14\x15\x16" + "\x21\x22\x23\x24\x25\x26" +
		zeros[:16] +
		"\xff\x0f\x00\x00" + "\xff\xff\xff\xff\xff\xff" + zeros[:6]
	got, err := dat.Encode(l)
	if err != api.OK || !slices.Equal(got, []string{want + zeros[len(want):]}) {
		t.Errorf("Encode = %q, %d", got, err)
	}
	for _, l := range rightTables() {
		if got, err := dat.Encode(l); err != api.OK || !slices.Equal(got, bytesOf(l)) {
			t.Errorf("Encode of %d places, %v = %d blocks, %d", len(l), short(l), len(got), err)
		}
	}
}

// P8.3: as many blocks as are begun: at each count of places, in use or free.
func TestEncodeAtEachCount(t *testing.T) {
	for count := 1; count <= most; count++ {
		for _, l := range [][]api.Trans{full(count), make([]api.Trans, count)} {
			got, err := dat.Encode(l)
			if err != api.OK || len(got) != (count+30)/31 {
				t.Errorf("Encode of %d places = %d blocks, %d", count, len(got), err)
			}
		}
	}
	got, _ := dat.Encode(full(most))
	if len(got) != api.MaxDats || !slices.Equal(got, bytesOf(full(most))) {
		t.Errorf("Encode of the longest table = %d blocks", len(got))
	}
}

// P8.3: a wrong table has no blocks.
func TestEncodeRefuses(t *testing.T) {
	for _, l := range wrongTables() {
		if got, err := dat.Encode(l); len(got) != 0 || err != api.ErrDat {
			t.Errorf("Encode of %d places, %v = %d blocks, %d; want none, 80", len(l), short(l), len(got), err)
		}
	}
}

func refuseDecode(t *testing.T, what string, blocks []string) {
	t.Helper()
	got, err := dat.Decode(blocks)
	refuseTable(t, "Decode of "+what, got, err, api.ErrDat)
}

// changed is a block with another byte at a place.
func changed(b string, place int, c byte) string {
	return b[:place] + string([]byte{c}) + b[place+1:]
}

// P8.3: a table is read from its blocks, without free places at its end.
func TestDecode(t *testing.T) {
	for _, l := range rightTables() {
		got, err := dat.Decode(bytesOf(l))
		wantTable(t, "Decode", got, err, trimmed(l))
	}
	block := strings.Repeat("\x00", 508)
	for count := 1; count <= 60; count++ { // of free places alone
		got, err := dat.Decode(slices.Repeat([]string{block}, count))
		wantTable(t, "Decode of bytes 0", got, err, table())
	}
	for _, place := range []int{1, 30, 31, 61, 62, most - 1} {
		l := with(make([]api.Trans, most), place, at(99, 9))
		got, err := dat.Decode(bytesOf(l))
		wantTable(t, "Decode of one in use", got, err, l[:place+1])
	}
}

// P8.3: blocks of no table: too few, too many, of other lengths.
func TestDecodeRefusesCountsAndLengths(t *testing.T) {
	refuseDecode(t, "none", nil)
	refuseDecode(t, "none", []string{})
	zero := strings.Repeat("\x00", 508)
	for _, count := range []int{61, 62, 120, 1000, 100000} {
		refuseDecode(t, "too many", slices.Repeat([]string{zero}, count))
	}
	refuseDecode(t, "too many", append(bytesOf(full(most)), zero))
	refuseDecode(t, "too many", slices.Repeat([]string{""}, 1<<20))
	good := bytesOf(full(93))
	for place := range good {
		for _, b := range []string{"", "\x00", good[place][:495], good[place][:496], good[place][:507], good[place] + "\x00", good[place] + "\x00\x00\x00\x00", good[place] + good[place]} {
			blocks := slices.Clone(good)
			blocks[place] = b
			refuseDecode(t, "another length", blocks)
		}
	}
	for size := range 508 {
		refuseDecode(t, "a short one", []string{zero[:size]})
	}
	for _, size := range []int{509, 512, 524, 1016, 65536, 1 << 20} {
		refuseDecode(t, "a long one", []string{strings.Repeat("\x00", size)})
	}
}

// P8.3: blocks of places that are not right, or with other bytes behind these.
func TestDecodeRefusesWrongOnes(t *testing.T) {
	for _, p := range wrongPlaces() {
		if p.Start > greatest || p.End > greatest {
			continue // six bytes say no such number
		}
		for _, place := range []int{0, 1, 30, 31, 40, 61} {
			refuseDecode(t, "a wrong place", bytesOf(with(make([]api.Trans, 62), place, p)))
			refuseDecode(t, "a wrong place", bytesOf(with(full(62), place, p)))
		}
	}
	for _, p := range rightPlaces()[1:] {
		refuseDecode(t, "a first place in use", bytesOf([]api.Trans{p}))
		refuseDecode(t, "a first place in use", bytesOf(with(full(62), 0, p)))
	}
	good := bytesOf(full(62))
	for k := range good {
		for place := 496; place < 508; place++ {
			for _, c := range []byte{1, 2, 128, 255} {
				refuseDecode(t, "bytes behind the places", withBlock(good, k, changed(good[k], place, c)))
			}
		}
	}
	refuseDecode(t, "bytes 255", []string{strings.Repeat("\xff", 508)})
}

// withBlock are the blocks with another one.
func withBlock(blocks []string, k int, b string) []string {
	out := slices.Clone(blocks)
	out[k] = b
	return out
}

// P8.3, T6: whatever is read, these are its blocks; whatever is not read is no right table's.
func TestDecodeReadsOneForm(t *testing.T) {
	l := table(at(16, 1), upTo(300, 5, 70000), api.Trans{}, at(4095, greatest), upTo(256, greatest-1, greatest))
	l = append(l, full(60)[10:]...)
	good := bytesOf(l)
	for k := range good {
		for place := range 508 {
			for _, c := range []byte{0, 1, 2, 15, 16, 127, 128, 255} {
				blocks := withBlock(good, k, changed(good[k], place, c))
				got, err := dat.Decode(blocks)
				same := blocks[k] == good[k]
				switch {
				case err == api.OK && (!dat.Right(got) || !slices.Equal(bytesOf(got), blocks)):
					t.Fatalf("with %d at %d of block %d: %v, which has other blocks", c, place, k, short(got))
				case err == api.OK && !same && slices.Equal(got, l):
					t.Fatalf("with %d at %d of block %d it is read as without", c, place, k)
				case err != api.OK && (same || len(got) != 0 || err != api.ErrDat):
					t.Fatalf("with %d at %d of block %d: %d places, %d", c, place, k, len(got), err)
				case err != api.OK && dat.Right(plainPlaces(blocks)) && place < 496:
					t.Fatalf("with %d at %d of block %d: %d, though its places are right", c, place, k, err)
				}
			}
		}
	}
}

// plainPlaces are the places that blocks of 508 bytes have, worked out without package num.
func plainPlaces(blocks []string) []api.Trans {
	var out []api.Trans
	for _, b := range blocks {
		for k := range 31 {
			p := []byte(b[16*k : 16*k+16])
			start := append(slices.Clone(p[4:10]), 0, 0)
			end := append(slices.Clone(p[10:16]), 0, 0)
			out = append(out, upTo(binary.LittleEndian.Uint32(p), binary.LittleEndian.Uint64(start), binary.LittleEndian.Uint64(end)))
		}
	}
	return out
}

func wantCounts(t *testing.T, l []api.Trans, segments int, want []int) {
	t.Helper()
	if got, err := dat.Counts(l, segments); err != api.OK || !slices.Equal(got, want) {
		t.Errorf("Counts of %v in %d = %v, %d; want %v, 0", short(l), segments, got, err, want)
	}
}

func refuseCounts(t *testing.T, l []api.Trans, segments int) {
	t.Helper()
	if got, err := dat.Counts(l, segments); len(got) != 0 || err != api.ErrDat {
		t.Errorf("Counts of %d places, %v in %d = %d segments, %d; want none, 80", len(l), short(l), segments, len(got), err)
	}
}

// P8.3: segment by segment, how many places have their block there, those that ended too, free ones not.
func TestCounts(t *testing.T) {
	wantCounts(t, table(), 1, []int{0})
	wantCounts(t, table(), 3, []int{0, 0, 0})
	wantCounts(t, make([]api.Trans, most), 2, []int{0, 0})
	wantCounts(t, table(at(16, 1)), 2, []int{0, 1})
	wantCounts(t, table(at(31, 1)), 2, []int{0, 1})
	wantCounts(t, table(at(32, 1), at(47, 1)), 3, []int{0, 0, 2})
	wantCounts(t, table(at(16, 1), api.Trans{}, upTo(31, 1, 2), at(32, 1), at(16, 1), at(64, 5)), 8, []int{0, 3, 1, 0, 1, 0, 0, 0})
	wantCounts(t, table(at(4095, 1)), 256, append(make([]int, 255), 1))
	want := make([]int, 256)
	for vbn := 1; vbn < most; vbn++ {
		want[(16+vbn)/16]++
	}
	wantCounts(t, full(most), 256, want)
	wantCounts(t, full(most), 118, want[:118]) // the last one lies at 1875
	for segments := 1; segments <= 256; segments++ {
		wantCounts(t, table(), segments, make([]int, segments))
	}
}

// P8.3: each block lies in a segment that there is, or is refused: at all blocks and the segments near them.
func TestCountsAtEachBlock(t *testing.T) {
	for phys := uint32(16); phys < 4096; phys++ {
		l, segment := table(at(phys, 1)), int(phys/16)
		refuseCounts(t, l, segment)
		wantCounts(t, l, segment+1, append(make([]int, segment), 1))
	}
	refuseCounts(t, full(most), 117)
	refuseCounts(t, table(at(16, 1)), 1)
	refuseCounts(t, table(at(16, 1), upTo(4095, 1, 2), at(16, 1)), 255)
}

// P8.3: wrong tables, and counts of segments that are none.
func TestCountsRefuses(t *testing.T) {
	for _, segments := range []int{0, -1, -256, 257, 258, 512, 4096, 1 << 32, 1<<32 + 8, math.MaxInt, math.MinInt} {
		for _, l := range [][]api.Trans{table(), table(at(16, 1)), full(most)} {
			refuseCounts(t, l, segments)
		}
	}
	for _, l := range wrongTables() {
		for _, segments := range []int{0, 1, 8, 256, 257} {
			refuseCounts(t, l, segments)
		}
	}
}

// anyTable is a right table in no order, free places and ended ones among them.
func anyTable(r *rand.Rand) []api.Trans {
	l := make([]api.Trans, 1+r.IntN(1+r.IntN(most)))
	size := 2 + r.IntN(46)
	for vbn := range l[1:] {
		if r.IntN(3) == 0 {
			continue
		}
		p := at(16+uint32(r.IntN(4080)), 1+r.Uint64N(1<<size-1))
		if r.IntN(2) == 0 {
			p.End = p.Start + 1 + r.Uint64N(1<<size)
		}
		l[vbn+1] = p
	}
	return l
}

// P8.4: tables in no order are read from their blocks as they were, but for free places at their end.
func TestTablesComeBack(t *testing.T) {
	r := rand.New(rand.NewPCG(8, 8))
	for range 1000 {
		l := anyTable(r)
		blocks, err := dat.Encode(l)
		if err != api.OK || !slices.Equal(blocks, bytesOf(l)) {
			t.Fatalf("Encode of %d places, %v = %d blocks, %d", len(l), short(l), len(blocks), err)
		}
		got, err := dat.Decode(blocks)
		wantTable(t, "Decode", got, err, trimmed(l))
		again, err := dat.Encode(got)
		if err != api.OK || !slices.Equal(again, blocks[:len(again)]) {
			t.Fatalf("what was read is encoded otherwise: %d blocks, %d", len(again), err)
		}
	}
}

// P8.2: tables in no order, swept by checkpoints in no order.
func TestSweepInNoOrder(t *testing.T) {
	r := rand.New(rand.NewPCG(8, 9))
	for range 1000 {
		l := anyTable(r)
		var cps []uint64
		for range r.IntN(6) {
			cps = append(cps, r.Uint64N(1<<(2+r.IntN(47))))
		}
		want, count := slices.Clone(l), 0
		for vbn, p := range l {
			if !plainLives(p, cps) && p != (api.Trans{}) {
				want[vbn] = api.Trans{}
				count++
			}
		}
		want = trimmed(want)
		wantSweep(t, l, cps, want, count)
		wantSweep(t, want, cps, want, 0) // what is left lives
	}
}

// P8.4: what was begun lives as long as it has no End; what ended, for the checkpoints between.
func TestBegunAndEnded(t *testing.T) {
	for start := uint64(1); start < 8; start++ {
		l, vbn, err := dat.Begin(table(at(20, 1)), 16, start)
		if err != api.OK || vbn != 2 {
			t.Fatalf("Begin at %d = place %d, %d", start, vbn, err)
		}
		for cp := range uint64(12) {
			if !dat.Lives(l[vbn], []uint64{cp}) {
				t.Errorf("what began at %d does not live by %d", start, cp)
			}
		}
		for end := start + 1; end < 10; end++ {
			ended, err := dat.End(l, vbn, end)
			if err != api.OK {
				t.Fatalf("End at %d of what began at %d: %d", end, start, err)
			}
			for cp := range uint64(12) {
				if got := dat.Lives(ended[vbn], []uint64{cp}); got != (cp >= start && cp < end) {
					t.Errorf("what began at %d and ended at %d lives by %d: %v", start, end, cp, got)
				}
			}
		}
		ended, err := dat.End(l, vbn, start)
		wantTable(t, "End at the Start", ended, err, table(at(20, 1), api.Trans{}))
	}
}

// step does one call in no order, on a table and on a plain list of what stands where.
func step(t *testing.T, r *rand.Rand, l []api.Trans, model []api.Trans, cp uint64) ([]api.Trans, []api.Trans) {
	t.Helper()
	phys, vbn := 16+uint32(r.IntN(4080)), uint32(r.IntN(len(model)+1))
	used := int(vbn) < len(model) && model[vbn] != (api.Trans{})
	var got []api.Trans
	var err api.Errno
	switch r.IntN(6) {
	case 0, 1:
		place := slices.Index(model[1:], api.Trans{}) + 1
		if place == 0 {
			place, model = len(model), append(model, api.Trans{})
		}
		model = with(model, place, at(phys, cp))
		got, vbn, err = dat.Begin(l, phys, cp)
		if int(vbn) != place {
			t.Fatalf("Begin = place %d; want %d", vbn, place)
		}
	case 2:
		got, err = dat.Move(l, vbn, phys)
		if !used {
			refuseTable(t, "Move", got, err, api.ErrDatNone)
			return l, model
		}
		model = with(model, int(vbn), upTo(phys, model[vbn].Start, model[vbn].End))
	case 3, 4:
		got, err = dat.End(l, vbn, cp)
		if !used || model[vbn].End != 0 {
			refuseTable(t, "End", got, err, api.ErrDatNone)
			return l, model
		}
		p := upTo(model[vbn].Phys, model[vbn].Start, cp)
		if p.Start == cp {
			p = api.Trans{}
		}
		model = with(model, int(vbn), p)
	case 5:
		cps := []uint64{cp, cp - min(cp, 2)}
		for place, p := range model {
			if !plainLives(p, cps) {
				model = with(model, place, api.Trans{})
			}
		}
		model = trimmed(model)
		got, _, err = dat.Sweep(l, cps)
	}
	wantTable(t, "a call", got, err, model)
	return got, model
}

// P8.1, P8.2: calls in no order, against a plain list.
func TestCallsInNoOrder(t *testing.T) {
	r := rand.New(rand.NewPCG(8, 10))
	for range 100 {
		l, model, cp := table(), table(), uint64(1)
		for range 200 {
			l, model = step(t, r, l, model, cp)
			if t.Failed() {
				return
			}
			if r.IntN(8) == 0 {
				cp++
			}
		}
	}
}

// R3: what is answered is new memory, spare room too, and what is handed in stays as it is.
func TestAnswersAreNewMemory(t *testing.T) {
	room := slices.Repeat([]api.Trans{at(50, 5)}, 60)
	room[0] = api.Trans{}
	l := room[:40]
	before := slices.Clone(room)
	begun, _, _ := dat.Begin(l, 16, 1)
	moved, _ := dat.Move(l, 3, 20)
	ended, _ := dat.End(l, 3, 9)
	freed, _ := dat.End(l, 3, 5)
	swept, _, _ := dat.Sweep(l, nil)
	same, _ := dat.Move(l, 3, 50)
	lists := [][]api.Trans{begun, moved, ended, freed, swept, same}
	for i, got := range lists {
		if len(got) < 40 {
			t.Fatalf("answer %d has %d places", i, len(got))
		}
		all := got[:cap(got)]
		for place := range all {
			all[place] = at(uint32(i), uint64(i))
		}
	}
	for i, got := range lists {
		for place, p := range got {
			if p != at(uint32(i), uint64(i)) {
				t.Fatalf("answer %d has %v at %d", i, p, place)
			}
		}
	}
	if !slices.Equal(room, before) {
		t.Errorf("what was handed in is %v now", short(room))
	}
}

// R3: of what is read and counted, too, two answers share nothing, and none shares with what was handed in.
func TestReadingAnswersNewMemory(t *testing.T) {
	l := full(100)
	one, _ := dat.Encode(l)
	two, _ := dat.Encode(l)
	for k := range one {
		if unsafe.StringData(one[k]) == unsafe.StringData(two[k]) {
			t.Errorf("the block %d is the same memory twice", k)
		}
	}
	room := append(slices.Clone(one), "x", "y")
	a, _ := dat.Decode(room[:4])
	b, _ := dat.Decode(room[:4])
	clear(a[:cap(a)])
	wantTable(t, "Decode", b, api.OK, l)
	clear(one[:cap(one)])
	if !slices.Equal(two, bytesOf(l)) || !slices.Equal(room, append(bytesOf(l), "x", "y")) {
		t.Error("answers of Encode share memory, or blocks that were handed in are written into")
	}
	c, _ := dat.Counts(l, 8)
	d, _ := dat.Counts(l, 8)
	clear(c[:cap(c)])
	if slices.Equal(c, d) {
		t.Error("two answers of Counts share memory")
	}
	if !slices.Equal(l, full(100)) {
		t.Errorf("what was handed in is %v now", short(l))
	}
}
