package cps_test

import (
	"encoding/binary"
	"fmt"
	"math"
	"math/big"
	"math/rand/v2"
	"slices"
	"strings"
	"testing"
	"unsafe"

	"nautilus/api"
	"nautilus/cps"
)

const (
	greatest = 1<<48 - 1 // the greatest Cp and Tick
	most     = 108       // checkpoints of the longest table
)

// root are 42 bytes that tell which checkpoint they were made for.
func root(n uint64) string {
	b := binary.BigEndian.AppendUint64(nil, n)
	return string(b) + strings.Repeat("\x00r", 16) + "\xff\x00"
}

func plain(cp uint64, tick uint64) api.Check {
	return api.Check{Cp: cp, Tick: tick, Root: root(cp)}
}

func snap(cp uint64, tick uint64) api.Check {
	return api.Check{Cp: cp, Tick: tick, Snap: true, Root: root(cp)}
}

// table are these checkpoints.
func table(l ...api.Check) []api.Check {
	return l
}

// many are so many checkpoints from 1 on, each third one a snapshot.
func many(count int) []api.Check {
	var l []api.Check
	for n := 1; n <= count; n++ {
		l = append(l, api.Check{Cp: uint64(n), Tick: uint64(1000 - n), Snap: n%3 == 0, Root: root(uint64(n))})
	}
	return l
}

// with is the table with another checkpoint at a place.
func with(l []api.Check, place int, c api.Check) []api.Check {
	out := slices.Clone(l)
	out[place] = c
	return out
}

// at are those of a list that stand at these places.
func at[T any](l []T, places ...int) []T {
	var out []T
	for _, place := range places {
		out = append(out, l[place])
	}
	return out
}

// rightOnes are checkpoints that may be alone in a table.
func rightOnes() []api.Check {
	zeros, ones := strings.Repeat("\x00", 42), strings.Repeat("\xff", 42)
	return []api.Check{
		plain(1, 0), snap(1, 0), plain(1, greatest), snap(greatest, greatest), plain(greatest, 0), plain(256, 255), plain(1<<40, 1<<47),
		{Cp: 1, Root: zeros}, {Cp: 1, Snap: true, Root: zeros}, {Cp: 5, Tick: 6, Root: ones}, {Cp: greatest, Tick: greatest, Snap: true, Root: ones},
	}
}

// wrongOnes are in no right table.
func wrongOnes() []api.Check {
	out := []api.Check{{}, {Root: root(0)}, {Snap: true, Root: root(0)}, {Tick: 5, Root: root(0)}}
	for _, n := range []uint64{greatest + 1, greatest + 2, 1<<48 + 1<<20, 1 << 49, 1 << 63, math.MaxUint64} {
		out = append(out, plain(n, 1), snap(n, 1), plain(1, n), snap(7, n), plain(n, n), plain(greatest, n))
	}
	for _, size := range []int{0, 1, 6, 40, 41, 43, 44, 84, 508, 512, 65536 + 42} {
		out = append(out, api.Check{Cp: 7, Tick: 8, Root: strings.Repeat("r", size)}, api.Check{Cp: 1, Snap: true, Root: strings.Repeat("\x00", size)})
	}
	return out
}

func rightTables() [][]api.Check {
	out := [][]api.Check{nil, {}, many(2), many(8), many(9), many(10), many(18), many(19), many(most - 1), many(most)}
	for _, c := range rightOnes() {
		out = append(out, table(c))
		if c.Cp == 1 {
			out = append(out, table(c, plain(2, 0)), with(many(most), 0, c))
		} else {
			out = append(out, table(plain(1, greatest), c))
		}
		if c.Cp == greatest {
			out = append(out, with(many(most), most-1, c), append(many(9), c))
		}
	}
	return append(out, table(plain(1, 9), plain(2, 9), plain(3, 8)), table(plain(5, 9), plain(700, 1), snap(greatest-1, 0), plain(greatest, 0)))
}

// wrongTables have too many checkpoints, or wrong ones, or some that do not rise.
func wrongTables() [][]api.Check {
	out := [][]api.Check{many(most + 1), many(most + 2), many(2 * most), many(1000)}
	for _, c := range wrongOnes() {
		out = append(out, table(c), table(c, plain(greatest, 1)), table(plain(1, 1), c), table(plain(1, 1), c, plain(greatest, 1)))
		for _, place := range []int{0, 1, 8, 9, 50, most - 1} {
			wrong := c
			if wrong.Cp == 1 || wrong.Cp == 7 {
				wrong.Cp = uint64(place + 1)
			}
			out = append(out, with(many(most), place, wrong))
		}
	}
	for _, place := range []int{1, 2, 8, 9, 10, 50, most - 1} {
		out = append(out, with(many(most), place, plain(uint64(place), 1)), with(many(most), place, plain(uint64(place-1), 1)), with(many(most), place-1, plain(uint64(place+1), 1)), with(many(most), place-1, plain(uint64(place+2), 1)))
	}
	return append(out, table(plain(1, 1), plain(1, 1)), table(plain(2, 1), plain(1, 2)), table(plain(greatest, 1), plain(greatest, 1)), table(plain(1, 1), plain(3, 1), plain(2, 1)), table(plain(1, 1), plain(3, 1), plain(3, 1)))
}

// short is what fits in a line of a table, the roots' bytes quoted.
func short(l []api.Check) string {
	return fmt.Sprintf("%#v", l[:min(len(l), 4)])
}

// bytesOf are the blocks of a table, right or not, worked out without package num.
func bytesOf(l []api.Check) []string {
	var out []string
	for from := 0; from < len(l); from += 9 {
		var b []byte
		for _, c := range l[from:min(from+9, len(l))] {
			var cp, tick [8]byte
			binary.LittleEndian.PutUint64(cp[:], c.Cp)
			binary.LittleEndian.PutUint64(tick[:], c.Tick)
			b = append(append(b, cp[:6]...), tick[:6]...)
			if c.Snap {
				b = append(b, 1)
			} else {
				b = append(b, 0)
			}
			b = append(b, c.Root...)
		}
		out = append(out, string(b)+strings.Repeat("\x00", 508-len(b)))
	}
	return out
}

func wantTable(t *testing.T, what string, got []api.Check, err api.Errno, want []api.Check) {
	t.Helper()
	if err != api.OK || !slices.Equal(got, want) {
		t.Errorf("%s = %d checkpoints, %v, %d; want %d, %v, 0", what, len(got), short(got), err, len(want), short(want))
	}
}

func refuseTable(t *testing.T, what string, got []api.Check, err api.Errno, want api.Errno) {
	t.Helper()
	if err != want || len(got) != 0 {
		t.Errorf("%s = %d checkpoints, %v, %d; want none, %d", what, len(got), short(got), err, want)
	}
}

// P9.1: which tables are right.
func TestRight(t *testing.T) {
	for _, l := range rightTables() {
		if !cps.Right(l) {
			t.Errorf("Right of %d checkpoints, %v, is false", len(l), short(l))
		}
	}
	for _, l := range wrongTables() {
		if cps.Right(l) {
			t.Errorf("Right of %d checkpoints, %v, is true", len(l), short(l))
		}
	}
}

// P9.1: there are at most 108, and each root has 42 bytes: at each count and size near these.
func TestRightAtEachCount(t *testing.T) {
	for count := range 300 {
		if got := cps.Right(many(count)); got != (count <= most) {
			t.Errorf("Right of %d checkpoints is %v", count, got)
		}
		c := api.Check{Cp: 1, Root: strings.Repeat("\x00", count)}
		if got := cps.Right(table(c)); got != (count == 42) {
			t.Errorf("Right with a root of %d bytes is %v", count, got)
		}
	}
}

// P9.1: numbers rise, from 1 on, below 2^48; times only are below that: at small numbers, and at those near 2^48.
func TestRightAtEachNumber(t *testing.T) {
	for _, base := range []uint64{0, greatest - 4, math.MaxUint64 - 9} {
		for one := base; one < base+9; one++ {
			for two := base; two < base+9; two++ {
				want := one >= 1 && two > one && two <= greatest
				if got := cps.Right(table(plain(one, 5), plain(two, 5))); got != want {
					t.Errorf("Right of the numbers %d, %d is %v", one, two, got)
				}
				want = one <= greatest && two <= greatest
				if got := cps.Right(table(plain(3, one), plain(4, two))); got != want {
					t.Errorf("Right of the times %d, %d is %v", one, two, got)
				}
			}
		}
	}
}

func wantAdd(t *testing.T, l []api.Check, c api.Check) {
	t.Helper()
	before := slices.Clone(l)
	got, err := cps.Add(l, c)
	wantTable(t, "Add", got, err, append(slices.Clone(l), c))
	if !slices.Equal(l, before) {
		t.Error("Add has written into what was handed in")
	}
}

// P9.1: what is added stands behind all others.
func TestAdd(t *testing.T) {
	for _, c := range rightOnes() {
		wantAdd(t, nil, c)
		if c.Cp > 1 {
			wantAdd(t, table(plain(1, 3)), c)
		}
	}
	wantAdd(t, table(plain(5, 9)), plain(6, 1)) // its time may be any
	wantAdd(t, table(snap(5, 9)), plain(1000, 9))
	wantAdd(t, table(plain(greatest-1, greatest)), snap(greatest, 0))
	for count := range most {
		wantAdd(t, many(count), plain(uint64(count+1), 2))
		wantAdd(t, many(count), snap(greatest, 2))
	}
}

// P9.1: a wrong table; then a full one, whatever is added; then what can't stand behind the others.
func TestAddRefuses(t *testing.T) {
	ones := append(wrongOnes(), plain(1, 1), plain(most+1, 1), snap(greatest, 1))
	for _, c := range ones {
		for _, l := range wrongTables() {
			got, err := cps.Add(l, c)
			refuseTable(t, "Add to a wrong one", got, err, api.ErrCps)
		}
		got, err := cps.Add(many(most), c)
		refuseTable(t, "Add to a full one", got, err, api.ErrCpsFull)
	}
	for _, c := range wrongOnes() {
		for _, l := range [][]api.Check{nil, many(5), many(9), many(most - 1)} {
			got, err := cps.Add(l, c)
			refuseTable(t, "Add of a wrong one", got, err, api.ErrCps)
		}
	}
	for count := 1; count < most; count++ {
		for cp := range uint64(count + 1) {
			got, err := cps.Add(many(count), plain(cp, 5000))
			refuseTable(t, "Add of a number that does not rise", got, err, api.ErrCps)
		}
	}
	got, err := cps.Add(table(plain(greatest, 1)), plain(greatest, 2))
	refuseTable(t, "Add behind the greatest number", got, err, api.ErrCps)
}

// P9.1: each one is found, by its number alone.
func TestFind(t *testing.T) {
	for _, l := range rightTables() {
		for _, c := range l {
			if got, err := cps.Find(l, c.Cp); got != c || err != api.OK {
				t.Errorf("Find of %d = %#v, %d", c.Cp, got, err)
			}
		}
	}
}

func refuseFind(t *testing.T, l []api.Check, cp uint64, want api.Errno) {
	t.Helper()
	if got, err := cps.Find(l, cp); got != (api.Check{}) || err != want {
		t.Errorf("Find of %d = %#v, %d; want none, %d", cp, got, err, want)
	}
}

// P9.1: what is not found: in a wrong table anything, else numbers that none has.
func TestFindRefuses(t *testing.T) {
	for _, l := range wrongTables() {
		for _, cp := range []uint64{0, 1, 2, most, greatest, math.MaxUint64} {
			refuseFind(t, l, cp, api.ErrCps)
		}
	}
	for _, cp := range []uint64{0, 1, 2, greatest, math.MaxUint64} {
		refuseFind(t, nil, cp, api.ErrCpNone)
	}
	l := table(plain(2, 7), snap(4, 8), plain(9, 3))
	for _, cp := range []uint64{0, 1, 3, 5, 7, 8, 10, greatest, greatest + 1, 1<<48 + 2, 1 << 63, math.MaxUint64} {
		refuseFind(t, l, cp, api.ErrCpNone)
	}
	refuseFind(t, many(most), 0, api.ErrCpNone)
	refuseFind(t, many(most), most+1, api.ErrCpNone)
}

// P9.1: all numbers, in the table's order.
func TestNumbers(t *testing.T) {
	for _, l := range append(rightTables(), wrongTables()...) {
		var want []uint64
		for _, c := range l {
			want = append(want, c.Cp)
		}
		if got := cps.Numbers(l); !slices.Equal(got, want) {
			t.Errorf("Numbers of %d checkpoints, %v = %v", len(l), short(l), got)
		}
	}
	if got := cps.Numbers(table(plain(2, 7), snap(4, 8), plain(greatest, 3))); !slices.Equal(got, []uint64{2, 4, greatest}) {
		t.Errorf("Numbers = %v", got)
	}
}

// P9.2: a checkpoint is a snapshot then, or a plain one, whatever it was; all else stays.
func TestMark(t *testing.T) {
	for _, l := range [][]api.Check{table(plain(1, 5)), table(snap(greatest, 5)), many(4), many(10), many(most), table(plain(2, 7), snap(4, 8), plain(9, 3))} {
		for place, c := range l {
			for _, is := range []bool{true, false} {
				before := slices.Clone(l)
				want := c
				want.Snap = is
				got, err := cps.Mark(l, c.Cp, is)
				wantTable(t, "Mark", got, err, with(l, place, want))
				if !slices.Equal(l, before) {
					t.Fatal("Mark has written into what was handed in")
				}
			}
		}
	}
}

// P9.2: Delete has one less, neither a snapshot nor the newest.
func TestDelete(t *testing.T) {
	for _, l := range [][]api.Check{many(2), many(5), many(10), many(most), table(plain(2, 7), snap(4, 8), plain(9, 3), plain(greatest, 0))} {
		for place, c := range l {
			if c.Snap || place == len(l)-1 {
				continue
			}
			before := slices.Clone(l)
			got, err := cps.Delete(l, c.Cp)
			wantTable(t, "Delete", got, err, slices.Delete(slices.Clone(l), place, place+1))
			refuseFind(t, got, c.Cp, api.ErrCpNone)
			if !slices.Equal(l, before) {
				t.Fatal("Delete has written into what was handed in")
			}
		}
	}
}

// P9.2: the newest is not deleted, even if it is a snapshot; then no snapshot is.
func TestDeleteRefuses(t *testing.T) {
	for _, l := range [][]api.Check{table(plain(1, 5)), table(snap(1, 5)), table(snap(greatest, 0)), many(2), many(3), many(9), many(most - 1), many(most), table(snap(1, 1), snap(2, 2), snap(3, 3))} {
		for place, c := range l {
			want := api.ErrCpSnap
			if place == len(l)-1 {
				want = api.ErrCpLast
			} else if !c.Snap {
				continue
			}
			got, err := cps.Delete(l, c.Cp)
			refuseTable(t, "Delete", got, err, want)
		}
	}
}

// P9.2: of Mark and Delete Find's errors come first.
func TestMarkAndDeleteOfNone(t *testing.T) {
	refuse := func(l []api.Check, cp uint64, want api.Errno) {
		for _, is := range []bool{true, false} {
			got, err := cps.Mark(l, cp, is)
			refuseTable(t, "Mark", got, err, want)
		}
		got, err := cps.Delete(l, cp)
		refuseTable(t, "Delete", got, err, want)
	}
	for _, l := range wrongTables() {
		for _, cp := range []uint64{0, 1, 2, 7, most, greatest, math.MaxUint64} {
			refuse(l, cp, api.ErrCps)
		}
	}
	for _, cp := range []uint64{0, 1, 3, 8, 10, greatest, greatest + 1, 1<<48 + 2, math.MaxUint64} {
		refuse(nil, cp, api.ErrCpNone)
		refuse(table(plain(2, 7), snap(4, 8), plain(9, 3)), cp, api.ErrCpNone)
	}
	refuse(many(most), 0, api.ErrCpNone)
	refuse(many(most), most+1, api.ErrCpNone)
}

// plainExpire asks by whole numbers of any size.
func plainExpire(l []api.Check, now uint64, keep uint64) []api.Check {
	whole := func(n uint64) *big.Int { return new(big.Int).SetUint64(n) }
	var out []api.Check
	for place, c := range l {
		over := new(big.Int).Add(whole(c.Tick), whole(keep)).Cmp(whole(now)) < 0
		if c.Snap || place == len(l)-1 || !over {
			out = append(out, c)
		}
	}
	return out
}

func wantExpire(t *testing.T, l []api.Check, now uint64, keep uint64, want []api.Check) {
	t.Helper()
	before := slices.Clone(l)
	got, count, err := cps.Expire(l, now, keep)
	wantTable(t, "Expire", got, err, want)
	if count != len(l)-len(want) {
		t.Errorf("Expire at %d, keep %d, of %v: %d expired; want %d", now, keep, short(l), count, len(l)-len(want))
	}
	if !slices.Equal(l, before) {
		t.Error("Expire has written into what was handed in")
	}
}

// P9.2: plain ones, but the newest, expire, when their time is over.
func TestExpire(t *testing.T) {
	l := table(plain(1, 2), snap(2, 6), plain(3, 7), plain(4, 9))
	wantExpire(t, l, 10, 3, at(l, 1, 2, 3))
	wantExpire(t, l, 11, 3, at(l, 1, 3))
	wantExpire(t, l, 5, 3, l)
	wantExpire(t, l, 6, 3, at(l, 1, 2, 3))
	wantExpire(t, l, 0, 0, l)
	wantExpire(t, l, 2, 0, l)
	wantExpire(t, l, 3, 0, at(l, 1, 2, 3))
	wantExpire(t, l, math.MaxUint64, 0, at(l, 1, 3))
	wantExpire(t, l, math.MaxUint64, math.MaxUint64, l)
	wantExpire(t, l, math.MaxUint64, math.MaxUint64-3, at(l, 1, 2, 3))
	wantExpire(t, l, math.MaxUint64, math.MaxUint64-2, l)
	wantExpire(t, l, 10, math.MaxUint64, l) // a sum of both would be below 10, if it wrapped round
	wantExpire(t, l, 10, math.MaxUint64-1, l)
	wantExpire(t, nil, 10, 3, nil)
	wantExpire(t, []api.Check{}, math.MaxUint64, 0, nil)
	wantExpire(t, table(plain(1, 2)), math.MaxUint64, 0, table(plain(1, 2)))
	wantExpire(t, table(snap(1, 2)), math.MaxUint64, 0, table(snap(1, 2)))
	wantExpire(t, table(plain(1, 2), snap(2, 0)), 10, 3, table(snap(2, 0)))
	l = table(plain(1, 9), plain(2, 1), plain(3, 8), plain(4, 0), plain(5, 9), plain(6, 0)) // times in no order
	wantExpire(t, l, 5, 0, at(l, 0, 2, 4, 5))
	wantExpire(t, many(most), math.MaxUint64, 0, slices.DeleteFunc(many(most), func(c api.Check) bool { return c.Cp%3 != 0 }))
}

// P9.2: at all small numbers, and at those where a sum or a difference could wrap round, by whole numbers of any size.
func TestExpireAtEachNumber(t *testing.T) {
	edges := []uint64{0, 1, 2, 3, 4, 5, 6, greatest - 1, greatest, greatest + 1, 2 * greatest, 1 << 63, math.MaxInt64, math.MaxUint64 - greatest - 1, math.MaxUint64 - greatest, math.MaxUint64 - 4, math.MaxUint64 - 3, math.MaxUint64 - 2, math.MaxUint64 - 1, math.MaxUint64}
	l := table(plain(1, 0), plain(2, 1), snap(3, 1), plain(4, 2), plain(5, 3), plain(6, greatest), snap(7, 0), plain(8, greatest-1), plain(9, 0))
	for _, now := range edges {
		for _, keep := range edges {
			wantExpire(t, l, now, keep, plainExpire(l, now, keep))
		}
	}
}

// P9.2: of a wrong table nothing expires.
func TestExpireRefuses(t *testing.T) {
	for _, l := range wrongTables() {
		for _, now := range []uint64{0, 10, math.MaxUint64} {
			got, count, err := cps.Expire(l, now, 3)
			refuseTable(t, "Expire", got, err, api.ErrCps)
			if count != 0 {
				t.Errorf("Expire tells %d beside %d", count, err)
			}
		}
	}
}

// P9.3: the bytes of a block, written out.
func TestEncode(t *testing.T) {
	r := "0123456789abcdefghijklmnopqrstuvwxyzABCDEF"
	l := table(
		api.Check{Cp: 0x060504030201, Tick: 0x161514131211, Snap: true, Root: r},
		api.Check{Cp: greatest, Tick: 7, Root: strings.ToUpper(r)},
	)
	want := "\x01\x02\x03\x04\x05\x06" + "\x11\x12\x13\x14\x15\x16" + "\x01" + r +
		"\xff\xff\xff\xff\xff\xff" + "\x07\x00\x00\x00\x00\x00" + "\x00" + strings.ToUpper(r)
	got, err := cps.Encode(l)
	if err != api.OK || !slices.Equal(got, []string{want + strings.Repeat("\x00", 508-110)}) {
		t.Errorf("Encode = %q, %d", got, err)
	}
	for _, l := range rightTables() {
		if got, err := cps.Encode(l); err != api.OK || !slices.Equal(got, bytesOf(l)) {
			t.Errorf("Encode of %d checkpoints, %v = %d blocks, %d", len(l), short(l), len(got), err)
		}
	}
}

// P9.3: as many blocks as are begun, none of none: at each count.
func TestEncodeAtEachCount(t *testing.T) {
	for count := range most + 1 {
		got, err := cps.Encode(many(count))
		if err != api.OK || len(got) != (count+8)/9 || !slices.Equal(got, bytesOf(many(count))) {
			t.Errorf("Encode of %d checkpoints = %d blocks, %d", count, len(got), err)
		}
	}
	if got, _ := cps.Encode(many(most)); len(got) != api.MaxCpsB {
		t.Errorf("Encode of the longest table = %d blocks", len(got))
	}
}

// P9.3: a wrong table has no blocks.
func TestEncodeRefuses(t *testing.T) {
	for _, l := range wrongTables() {
		if got, err := cps.Encode(l); len(got) != 0 || err != api.ErrCps {
			t.Errorf("Encode of %d checkpoints, %v = %d blocks, %d; want none, 90", len(l), short(l), len(got), err)
		}
	}
}

// P9.3: a table is read from its blocks, at each count; of no blocks none.
func TestDecode(t *testing.T) {
	for _, l := range rightTables() {
		got, err := cps.Decode(bytesOf(l))
		wantTable(t, "Decode", got, err, l)
	}
	for count := range most + 1 {
		got, err := cps.Decode(bytesOf(many(count)))
		wantTable(t, "Decode", got, err, many(count))
	}
	got, err := cps.Decode(nil)
	wantTable(t, "Decode of none", got, err, nil)
	got, err = cps.Decode([]string{})
	wantTable(t, "Decode of none", got, err, nil)
}

func refuseDecode(t *testing.T, what string, blocks []string) {
	t.Helper()
	got, err := cps.Decode(blocks)
	refuseTable(t, "Decode of "+what, got, err, api.ErrCps)
}

// changed is a block with another byte at a place.
func changed(b string, place int, c byte) string {
	return b[:place] + string([]byte{c}) + b[place+1:]
}

// withBlock are the blocks with another one.
func withBlock(blocks []string, k int, b string) []string {
	out := slices.Clone(blocks)
	out[k] = b
	return out
}

// P9.3: blocks of no table: too many, of other lengths, without a checkpoint.
func TestDecodeRefusesCountsAndLengths(t *testing.T) {
	zero := strings.Repeat("\x00", 508)
	for _, count := range []int{1, 2, 11, 12, 13, 24, 1000, 100000} {
		refuseDecode(t, "bytes 0", slices.Repeat([]string{zero}, count))
	}
	for _, count := range []int{1, 8, 9, 10, 18, most - 9, most} {
		refuseDecode(t, "a block of none behind the last one", append(bytesOf(many(count)), zero))
		refuseDecode(t, "a block of none ahead of the first one", append([]string{zero}, bytesOf(many(count))...))
	}
	for _, count := range []int{most + 1, most + 9, 2 * most} {
		refuseDecode(t, "too many", bytesOf(many(count)))
	}
	refuseDecode(t, "too many", slices.Repeat([]string{""}, 1<<20))
	good := bytesOf(many(27))
	for k, whole := range good {
		for _, b := range []string{"", "\x00", whole[:55], whole[:110], whole[:494], whole[:495], whole[:507], whole + "\x00", whole + "\x00\x00\x00\x00", whole + whole} {
			refuseDecode(t, "another length", withBlock(good, k, b))
		}
	}
	one := bytesOf(many(1))[0]
	for size := range 508 {
		refuseDecode(t, "a short one", []string{zero[:size]})
		refuseDecode(t, "a short one", []string{one[:size]})
		refuseDecode(t, "a short one", []string{bytesOf(many(9))[0], one[:size]})
	}
	for _, size := range []int{509, 512, 550, 1016, 65536, 1 << 20} {
		refuseDecode(t, "a long one", []string{one + strings.Repeat("\x00", size-508)})
		refuseDecode(t, "a long one", []string{strings.Repeat("\x01", size)})
	}
}

// P9.3: blocks of numbers that do not rise, of one that is 0 ahead of others, in another order.
func TestDecodeRefusesWrongOnes(t *testing.T) {
	for place := range most {
		c := many(most)[place]
		for _, cp := range []uint64{0, uint64(place), uint64(place + 2), greatest} {
			if place == 0 && cp == 0 || place < most-1 || cp <= uint64(place) {
				c.Cp = cp
				refuseDecode(t, "a number that does not rise", bytesOf(with(many(most), place, c)))
			}
		}
		if place < most-1 { // the last one may be none: then there is one less
			refuseDecode(t, "none ahead of others", bytesOf(with(many(most), place, api.Check{Root: strings.Repeat("\x00", 42)})))
		}
	}
	l := many(most)
	l[most-1] = api.Check{Root: strings.Repeat("\x00", 42)}
	got, err := cps.Decode(bytesOf(l))
	wantTable(t, "Decode of one less", got, err, many(most-1))
	good := bytesOf(many(30))
	refuseDecode(t, "blocks in another order", at(good, 1, 0, 2, 3))
	refuseDecode(t, "blocks in another order", at(good, 0, 1, 3, 2))
	refuseDecode(t, "a block twice", at(good, 0, 0, 1, 2, 3))
	refuseDecode(t, "a block twice", at(good, 3, 3))
	refuseDecode(t, "a last block that is not the last one", at(good, 3, 0))
	refuseDecode(t, "bytes 255", []string{strings.Repeat("\xff", 508)})
}

// P9.3: behind the last checkpoint stand bytes 0 alone, in its block, too; a snapshot is 1, a plain one 0.
func TestDecodeRefusesOtherBytes(t *testing.T) {
	for count := 1; count <= 19; count++ {
		good := bytesOf(many(count))
		last := len(good) - 1
		from := (count - 9*last) * 55
		if from < 495 {
			from += 6 // with another byte there it were a checkpoint more
		}
		for place := from; place < 508; place++ {
			for _, c := range []byte{1, 2, 128, 255} {
				blocks := withBlock(good, last, changed(good[last], place, c))
				refuseDecode(t, "bytes behind the last one", blocks)
			}
		}
		for place := range count {
			k, flag := place/9, place%9*55+12
			for c := 2; c < 256; c++ {
				refuseDecode(t, "a checkpoint that is neither", withBlock(good, k, changed(good[k], flag, byte(c))))
			}
		}
	}
}

// plainChecks are the checkpoints that blocks of 508 bytes have, up to the first of number 0, worked out without package num.
func plainChecks(blocks []string) []api.Check {
	var out []api.Check
	for _, b := range blocks {
		for k := range 9 {
			p := []byte(b[55*k : 55*k+55])
			cp := append(slices.Clone(p[:6]), 0, 0)
			tick := append(slices.Clone(p[6:12]), 0, 0)
			c := api.Check{Cp: binary.LittleEndian.Uint64(cp), Tick: binary.LittleEndian.Uint64(tick), Snap: p[12] == 1, Root: string(p[13:])}
			if c.Cp == 0 {
				return out
			}
			out = append(out, c)
		}
	}
	return out
}

// P9.3, T6: what is read has these blocks, and no others; what is not read is no right table's.
func TestDecodeReadsOneForm(t *testing.T) {
	l := append(many(12), plain(300, 70000), snap(1<<40, greatest), plain(greatest, 1<<47))
	good := bytesOf(l)
	for k := range good {
		for place := range 508 {
			for _, c := range []byte{0, 1, 2, 13, 127, 128, 255} {
				blocks := withBlock(good, k, changed(good[k], place, c))
				want := plainChecks(blocks)
				is := cps.Right(want) && slices.Equal(bytesOf(want), blocks)
				got, err := cps.Decode(blocks)
				if is && (err != api.OK || !slices.Equal(got, want)) || !is && (err != api.ErrCps || len(got) != 0) {
					t.Fatalf("with %d at %d of block %d: %d checkpoints, %v, %d; a table: %v", c, place, k, len(got), short(got), err, is)
				}
			}
		}
	}
}

// anyTable is a right table in no order of times, of numbers of any size.
func anyTable(r *rand.Rand) []api.Check {
	size := 8 + r.IntN(41)
	numbers := map[uint64]int{}
	for range r.IntN(most + 1) {
		numbers[1+r.Uint64N(1<<size-1)]++
	}
	var l []api.Check
	for cp := range numbers {
		b := make([]byte, 42)
		for i := range b {
			b[i] = byte(r.IntN(256))
		}
		l = append(l, api.Check{Cp: cp, Tick: r.Uint64N(1 << size), Snap: r.IntN(3) == 0, Root: string(b)})
	}
	slices.SortFunc(l, func(a, b api.Check) int {
		if a.Cp < b.Cp {
			return -1
		}
		return 1
	})
	return l
}

// P9.4: tables of any numbers are read from their blocks as they were.
func TestTablesComeBack(t *testing.T) {
	r := rand.New(rand.NewPCG(9, 8))
	for range 1000 {
		l := anyTable(r)
		blocks, err := cps.Encode(l)
		if err != api.OK || !slices.Equal(blocks, bytesOf(l)) {
			t.Fatalf("Encode of %d checkpoints, %v = %d blocks, %d", len(l), short(l), len(blocks), err)
		}
		got, err := cps.Decode(blocks)
		wantTable(t, "Decode", got, err, l)
	}
}

// P9.4: snapshots, and the newest, stay, whatever expires; so do all that are young enough.
func TestWhatStays(t *testing.T) {
	r := rand.New(rand.NewPCG(9, 9))
	for range 1000 {
		l := anyTable(r)
		now, keep := r.Uint64N(1<<(1+r.IntN(63))), r.Uint64N(1<<(1+r.IntN(63)))
		wantExpire(t, l, now, keep, plainExpire(l, now, keep))
		left, _, _ := cps.Expire(l, now, keep)
		wantExpire(t, left, now, keep, left) // what was left expires no more
		for place, c := range l {
			if got, err := cps.Find(left, c.Cp); (c.Snap || place == len(l)-1) && (got != c || err != api.OK) {
				t.Errorf("%#v is found no more: %#v, %d", c, got, err)
			}
		}
	}
}

// P9.4: what is deleted is not found, all others are as they were.
func TestWhatIsDeleted(t *testing.T) {
	r := rand.New(rand.NewPCG(9, 10))
	for range 300 {
		l := anyTable(r)
		if len(l) == 0 {
			continue
		}
		gone := l[r.IntN(len(l))].Cp
		got, err := cps.Delete(l, gone)
		if err != api.OK {
			continue
		}
		for _, c := range l {
			if c.Cp == gone {
				refuseFind(t, got, gone, api.ErrCpNone)
			} else if found, err := cps.Find(got, c.Cp); found != c || err != api.OK {
				t.Errorf("behind Delete of %d, Find of %d = %#v, %d", gone, c.Cp, found, err)
			}
		}
	}
}

// step does one call in no order, on a table and on a plain list.
func step(t *testing.T, r *rand.Rand, l []api.Check, model []api.Check, cp uint64) ([]api.Check, []api.Check) {
	t.Helper()
	asked := r.Uint64N(cp + 2)
	place := slices.IndexFunc(model, func(c api.Check) bool { return c.Cp == asked })
	var got []api.Check
	err, want := api.OK, api.OK
	switch r.IntN(5) {
	case 0, 1:
		c := plain(cp, cp)
		if len(model) == most {
			want = api.ErrCpsFull
		} else {
			model = append(slices.Clone(model), c)
		}
		got, err = cps.Add(l, c)
	case 2:
		is := r.IntN(4) == 0
		got, err = cps.Mark(l, asked, is)
		if place < 0 {
			want = api.ErrCpNone
		} else {
			c := model[place]
			c.Snap = is
			model = with(model, place, c)
		}
	case 3:
		got, err = cps.Delete(l, asked)
		switch {
		case place < 0:
			want = api.ErrCpNone
		case place == len(model)-1:
			want = api.ErrCpLast
		case model[place].Snap:
			want = api.ErrCpSnap
		default:
			model = slices.Delete(slices.Clone(model), place, place+1)
		}
	case 4:
		keep := 200 + r.Uint64N(400)
		model = plainExpire(model, cp, keep)
		got, _, err = cps.Expire(l, cp, keep)
	}
	if want != api.OK {
		refuseTable(t, "a call", got, err, want)
		return l, model
	}
	wantTable(t, "a call", got, err, model)
	return got, model
}

// P9.1, P9.2, P9.4: calls in no order, against a plain list.
func TestCallsInNoOrder(t *testing.T) {
	r := rand.New(rand.NewPCG(9, 11))
	for range 40 {
		var l, model []api.Check
		for cp := uint64(1); cp < 600; cp++ {
			l, model = step(t, r, l, model, cp)
			if t.Failed() {
				return
			}
		}
	}
}

// share tells whether two texts have bytes of the same memory.
func share(a string, b string) bool {
	from, to := uintptr(unsafe.Pointer(unsafe.StringData(a))), uintptr(unsafe.Pointer(unsafe.StringData(b)))
	return len(a) > 0 && len(b) > 0 && from < to+uintptr(len(b)) && to < from+uintptr(len(a))
}

// answers are lists that calls answer of one table, each of which has most of its checkpoints.
func answers(l []api.Check) [][]api.Check {
	added, _ := cps.Add(l, plain(500, 1))
	marked, _ := cps.Mark(l, 4, true)
	same, _ := cps.Mark(l, 4, false)
	deleted, _ := cps.Delete(l, 4)
	expired, _, _ := cps.Expire(l, 970, 0)
	whole, _, _ := cps.Expire(l, 0, 0)
	blocks, _ := cps.Encode(l)
	decoded, _ := cps.Decode(blocks)
	return [][]api.Check{added, marked, same, deleted, expired, whole, decoded}
}

// R3: lists that are answered are new memory, spare room too, and what is handed in stays as it is.
func TestAnswersAreNewMemory(t *testing.T) {
	room := append(many(40), many(20)...)
	before := slices.Clone(room)
	l := room[:40]
	lists := answers(l)
	for i, got := range lists {
		if len(got) < 25 {
			t.Fatalf("answer %d has %d checkpoints", i, len(got))
		}
		all := got[:cap(got)]
		for place := range all {
			all[place] = plain(uint64(i), uint64(place))
		}
	}
	for i, got := range lists {
		for place, c := range got[:cap(got)] {
			if c != plain(uint64(i), uint64(place)) {
				t.Fatalf("answer %d has %#v at %d", i, c, place)
			}
		}
	}
	if !slices.Equal(room, before) {
		t.Errorf("what was handed in is %v now", short(room))
	}
}

// R3: numbers, too, are a list of their own.
func TestNumbersAreNewMemory(t *testing.T) {
	l := many(40)
	one, two := cps.Numbers(l), cps.Numbers(l)
	clear(one[:cap(one)])
	if two[0] != 1 || two[39] != 40 || !slices.Equal(l, many(40)) {
		t.Error("two answers of Numbers share memory")
	}
}

// R3: roots that are answered are no piece of those, or of blocks, that were handed in.
func TestRootsAreNewMemory(t *testing.T) {
	l := many(40)
	for i, got := range answers(l)[:6] {
		for _, c := range got {
			for _, from := range l {
				if share(c.Root, from.Root) {
					t.Fatalf("answer %d has the root of %d in the memory of that of %d", i, c.Cp, from.Cp)
				}
			}
		}
	}
	c := plain(500, 1)
	added, _ := cps.Add(l, c)
	if share(added[40].Root, c.Root) {
		t.Error("Add keeps the root that was handed in")
	}
	if found, _ := cps.Find(l, 7); share(found.Root, l[6].Root) {
		t.Error("Find answers the root that was handed in")
	}
	blocks := bytesOf(l)
	decoded, _ := cps.Decode(blocks)
	for place, c := range decoded {
		if share(c.Root, blocks[place/9]) {
			t.Fatalf("Decode answers a piece of block %d", place/9)
		}
	}
	one, _ := cps.Encode(l)
	two, _ := cps.Encode(l)
	for k := range one {
		if share(one[k], two[k]) {
			t.Errorf("the block %d is the same memory twice", k)
		}
	}
}
