package usage_test

import (
	"math"
	"math/big"
	"math/rand/v2"
	"slices"
	"testing"

	"nautilus/api"
	"nautilus/usage"
)

const greatest = 1<<48 - 1 // the greatest Begun

// first is a right first segment.
func first() api.Seg {
	return api.Seg{State: api.Dirty}
}

// segs are segments behind a right first one, clean ones behind them up to so many in all.
func segs(count int, l ...api.Seg) []api.Seg {
	out := make([]api.Seg, count)
	out[0] = first()
	copy(out[1:], l)
	return out
}

func dirty(live int, begun uint64) api.Seg {
	return api.Seg{Live: live, Begun: begun, State: api.Dirty}
}

// with is a list with another segment at a place.
func with(l []api.Seg, at int, s api.Seg) []api.Seg {
	out := slices.Clone(l)
	out[at] = s
	return out
}

// rightSegs are such as may stand anywhere but at the first place.
func rightSegs() []api.Seg {
	var out []api.Seg
	for _, state := range []int{0, 1, 2} {
		for live := range 17 {
			for _, begun := range []uint64{0, 1, 255, 1 << 32, 1 << 47, greatest} {
				out = append(out, api.Seg{Live: live, Begun: begun, State: state})
			}
		}
	}
	return out
}

func wrongSegs() []api.Seg {
	var out []api.Seg
	for _, live := range []int{-1, -2, -16, 17, 18, 32, 256, 1 << 32, 1<<32 + 1, math.MaxInt, math.MinInt} {
		out = append(out, api.Seg{Live: live, State: api.Dirty})
	}
	for _, begun := range []uint64{greatest + 1, greatest + 2, 1 << 49, 1 << 63, math.MaxUint64} {
		out = append(out, api.Seg{Begun: begun, State: api.Dirty})
	}
	for _, state := range []int{-1, -2, 3, 4, 256, 257, 1<<32 + 1, math.MaxInt, math.MinInt} {
		out = append(out, api.Seg{State: state})
	}
	return append(out, api.Seg{Live: -1, Begun: 1 << 48, State: 3})
}

// wrongLists are lists of segments that are not right, for each of the reasons.
func wrongLists() [][]api.Seg {
	out := [][]api.Seg{nil, {}, {first()}, segs(7), segs(257), segs(512), make([]api.Seg, 8), make([]api.Seg, 256)}
	for _, state := range []int{api.Clean, api.Active, 3, -1} {
		out = append(out, with(segs(8, dirty(1, 1)), 0, api.Seg{State: state}))
	}
	for _, count := range []int{8, 256} {
		for _, s := range wrongSegs() {
			for _, at := range []int{0, 1, count / 2, count - 1} {
				out = append(out, with(segs(count, dirty(1, 1)), at, s))
			}
		}
	}
	return out
}

// P6.1: how many segments there may be.
func TestRightCounts(t *testing.T) {
	for count := 1; count < 520; count++ {
		want := count >= 8 && count <= 256
		if got := usage.Right(segs(count)); got != want {
			t.Errorf("Right of %d segments: %v", count, got)
		}
	}
}

// P6.1: what each segment may be, at the edges of each of its numbers, at each place but the first.
func TestRightSegments(t *testing.T) {
	for _, s := range rightSegs() {
		for _, at := range []int{1, 2, 6, 7} {
			if !usage.Right(with(segs(8), at, s)) {
				t.Errorf("Right with %v at %d is false", s, at)
			}
		}
		all := slices.Repeat([]api.Seg{s}, 256)
		all[0] = first()
		if !usage.Right(all) {
			t.Errorf("Right of nothing but %v is false", s)
		}
	}
}

// P6.1: the first one is Dirty, and may be anything else that others are.
func TestRightFirst(t *testing.T) {
	for _, s := range rightSegs() {
		if got, want := usage.Right(with(segs(8), 0, s)), s.State == api.Dirty; got != want {
			t.Errorf("Right with %v first: %v", s, got)
		}
	}
}

// P6.1: each reason for which segments are not right.
func TestRightRefuses(t *testing.T) {
	for i, l := range wrongLists() {
		if usage.Right(l) {
			t.Errorf("Right of the wrong list %d, of %d segments, is true", i, len(l))
		}
	}
}

// P6.1: those are counted that are Clean, wherever they stand, whatever else they are.
func TestCleanOnes(t *testing.T) {
	active := api.Seg{State: api.Active}
	for _, x := range []struct {
		l    []api.Seg
		want int
	}{
		{nil, 0},
		{[]api.Seg{}, 0},
		{[]api.Seg{first()}, 0},
		{segs(8), 7},
		{segs(256), 255},
		{segs(8, dirty(0, 0)), 6},
		{segs(8, active, active, dirty(0, 0), dirty(16, 9)), 3},
		{segs(8, active, active, active, active, active, active), 1},
		{segs(8, active, active, active, active, active, active, active), 0},
		{segs(8, api.Seg{Live: 16, Begun: greatest}, api.Seg{Live: 1}), 7},
		{segs(3, active), 1},
		{segs(1000, dirty(1, 1)), 998},
		{segs(8, api.Seg{State: 3}, api.Seg{State: -1}, api.Seg{State: 256}), 4},
	} {
		if got := usage.CleanOnes(x.l); got != x.want {
			t.Errorf("CleanOnes of %d segments = %d; want %d", len(x.l), got, x.want)
		}
	}
}

func wantNext(t *testing.T, l []api.Seg, from int, want int, wantOk bool) {
	t.Helper()
	if at, ok := usage.Next(l, from); at != want || ok != wantOk {
		t.Errorf("Next of %d segments from %d = %d, %v; want %d, %v", len(l), from, at, ok, want, wantOk)
	}
}

// P6.1: the next one is behind the place, then from the first one on, at last at the place itself.
func TestNext(t *testing.T) {
	l := segs(8, dirty(1, 1), api.Seg{State: api.Active}, api.Seg{}, dirty(1, 1), api.Seg{}, api.Seg{State: api.Active}, dirty(1, 1))
	for from, want := range []int{3, 3, 3, 5, 5, 3, 3, 3} {
		wantNext(t, l, from, want, true)
	}
	for from := range 8 {
		wantNext(t, segs(8), from, max(1, (from+1)%8), true)
	}
}

// P6.1: one clean one alone is found from everywhere, from itself, too.
func TestNextAlone(t *testing.T) {
	for _, count := range []int{8, 9, 100, 256} {
		full := slices.Repeat([]api.Seg{first()}, count)
		for at := 1; at < count; at += 1 + count/20 {
			l := with(full, at, api.Seg{})
			for from := range count {
				wantNext(t, l, from, at, true)
			}
		}
		for from := range count {
			wantNext(t, full, from, 0, false)
		}
	}
}

// P6.1, R6: from is no place.
func TestNextOfNoPlace(t *testing.T) {
	for _, count := range []int{8, 256} {
		for _, from := range []int{-1, -2, -count, count, count + 1, 2 * count, 1 << 32, math.MaxInt, math.MaxInt - 1, math.MinInt} {
			wantNext(t, segs(count), from, 0, false)
		}
	}
	for _, from := range []int{-1, 0, 1} {
		wantNext(t, nil, from, 0, false)
		wantNext(t, []api.Seg{}, from, 0, false)
	}
}

func wantChoice(t *testing.T, l []api.Seg, way int, now uint64, want int) {
	t.Helper()
	if at, ok, err := usage.Choose(l, way, now); at != want || !ok || err != api.OK {
		t.Errorf("Choose of %v by %d at %d = %d, %v, %d; want %d, true, 0", l, way, now, at, ok, err, want)
	}
}

func wantNoChoice(t *testing.T, l []api.Seg, way int, now uint64, want api.Errno) {
	t.Helper()
	if at, ok, err := usage.Choose(l, way, now); at != 0 || ok || err != want {
		t.Errorf("Choose of %d segments by %d at %d = %d, %v, %d; want 0, false, %d", len(l), way, now, at, ok, err, want)
	}
}

// P6.2: the chapter's example.
func TestChooseOfTheChapter(t *testing.T) {
	l := segs(8, dirty(4, 5), dirty(2, 9), dirty(16, 1))
	wantChoice(t, l, api.Oldest, 10, 1)
	wantChoice(t, l, api.Fewest, 10, 2)
	wantChoice(t, l, api.Benefit, 10, 1)
}

type choice struct {
	name     string
	l        []api.Seg
	now      uint64
	old, few int
	benefit  int
}

func choices() []choice {
	full := dirty(16, 0)
	return []choice{
		{"one alone", segs(8, full, dirty(15, greatest)), 0, 2, 2, 2},
		{"one alone, at the last place", segs(8, full, full, full, full, full, full, dirty(3, 3)), 9, 7, 7, 7},
		{"the first one is best", with(segs(8, dirty(3, 3)), 0, dirty(0, 0)), 9, 1, 1, 1},
		{"a full one is oldest", segs(8, full, dirty(15, 8)), 9, 2, 2, 2},
		{"clean and active ones are best", segs(8, api.Seg{State: api.Active}, dirty(15, 8), api.Seg{}), 9, 2, 2, 2},
		{"all the same", segs(8, dirty(5, 5), dirty(5, 5), dirty(5, 5)), 9, 1, 1, 1},
		{"all the same, behind a full one", segs(8, full, dirty(5, 5), dirty(5, 5)), 9, 2, 2, 2},
		{"the same but for the last", segs(8, dirty(5, 5), dirty(5, 5), dirty(4, 4)), 9, 3, 3, 3},
		{"one is older, one has less", segs(8, dirty(9, 2), dirty(8, 3)), 4, 1, 2, 1},
		{"one is older, one has less, later", segs(8, dirty(9, 2), dirty(8, 3)), 100, 1, 2, 2},
		{"no time has gone", segs(8, dirty(5, 9), dirty(0, 5), dirty(1, 1)), 0, 3, 2, 1},
		{"begun at now, and behind it", segs(8, dirty(5, 9), dirty(15, 10), dirty(0, 10)), 9, 1, 3, 1},
		{"begun behind now alone has no age", segs(8, dirty(0, 11), dirty(15, 9)), 10, 2, 1, 1},  // 1 by 16, cut, is 0
		{"begun behind now, and one of worth", segs(8, dirty(0, 11), dirty(14, 2)), 10, 2, 1, 2}, // 16 by 15, cut, is 1
		{"the lower one is worth more", segs(8, dirty(14, 1), dirty(15, 0)), 22, 2, 1, 1},        // 42 by 15: 2; 22 by 16: 1
		{"the lower one is worth less", segs(8, dirty(15, 6), dirty(14, 7)), 38, 1, 2, 2},        // 32 by 16: 2; 62 by 15: 4
		{"both cut to 1", segs(8, dirty(15, 0), dirty(13, 11)), 16, 1, 2, 1},                     // 16 by 16; 15 by 14
		{"both cut to 0", segs(8, dirty(15, 9), dirty(14, 9)), 10, 1, 2, 1},                      // 1 by 16; 2 by 15
		{"the edges of Begun", segs(8, dirty(1, greatest), dirty(1, 0)), greatest, 2, 1, 2},
		{"the greatest of all", segs(8, dirty(1, greatest), dirty(0, greatest)), greatest, 1, 2, 1},
	}
}

// P6.2: the chosen one, by each way.
func TestChoose(t *testing.T) {
	for _, x := range choices() {
		t.Run(x.name, func(t *testing.T) {
			wantChoice(t, x.l, api.Oldest, x.now, x.old)
			wantChoice(t, x.l, api.Fewest, x.now, x.few)
			wantChoice(t, x.l, api.Benefit, x.now, x.benefit)
		})
	}
}

// P6.2: an age above 2^58 is 2^58, one below 0 is 0.
func TestChooseAtGreatNumbers(t *testing.T) {
	const top = 1 << 58
	older := segs(8, dirty(3, 2), dirty(3, 1))
	wantChoice(t, older, api.Benefit, top, 2)
	wantChoice(t, older, api.Benefit, top+1, 2)
	for _, now := range []uint64{top + 2, top + 3, 1 << 59, 1 << 60, 1 << 63, math.MaxUint64} {
		wantChoice(t, older, api.Benefit, now, 1)
		wantChoice(t, older, api.Oldest, now, 2)
	}
	fewer := segs(8, dirty(1, 0), dirty(0, greatest))
	for _, now := range []uint64{1 << 50, top, top + greatest, 1 << 60, 1 << 62, 1 << 63, math.MaxUint64} {
		wantChoice(t, fewer, api.Benefit, now, 2)
	}
	wantChoice(t, segs(8, dirty(0, greatest), dirty(13, 0)), api.Benefit, greatest, 2)
	wantChoice(t, segs(8, dirty(0, greatest), dirty(13, 1)), api.Benefit, 0, 1)
}

// P6.2: Oldest and Fewest ask nothing of the time.
func TestChooseAtAnyTime(t *testing.T) {
	l := segs(8, dirty(4, 5), dirty(2, 9), dirty(6, 3))
	for _, now := range []uint64{0, 1, 3, 4, 9, 1 << 48, 1 << 58, math.MaxUint64} {
		wantChoice(t, l, api.Oldest, now, 3)
		wantChoice(t, l, api.Fewest, now, 2)
	}
}

// P6.2: there is none to choose.
func TestChooseNone(t *testing.T) {
	full, active := dirty(16, 0), api.Seg{State: api.Active}
	for _, l := range [][]api.Seg{
		segs(8),
		segs(256),
		segs(8, full),
		segs(8, active, api.Seg{Live: 3}),
		segs(8, full, full, full, full, full, full, full),
		segs(8, active, active, active, active, active, active, active),
		with(segs(8), 0, dirty(3, 3)),
	} {
		for _, now := range []uint64{0, 10, math.MaxUint64} {
			for way := range 3 {
				wantNoChoice(t, l, way, now, api.OK)
			}
		}
	}
}

// P6.2, R1: segments that are not right are named first, then ways that are none.
func TestChooseRefuses(t *testing.T) {
	ways := []int{-1, -2, 3, 4, 256, 257, 1<<32 + 1, math.MaxInt, math.MinInt}
	for _, l := range wrongLists() {
		for _, way := range append([]int{0, 1, 2}, ways...) {
			wantNoChoice(t, l, way, 10, api.ErrUsage)
		}
	}
	for _, way := range ways {
		wantNoChoice(t, segs(8, dirty(1, 1)), way, 10, api.ErrArg)
		wantNoChoice(t, segs(8), way, 10, api.ErrArg)
	}
}

// worth is how much a segment is worth by a way, worked out with whole numbers of any size.
func worth(s api.Seg, way int, now uint64) *big.Int {
	switch way {
	case api.Oldest:
		return new(big.Int).Neg(new(big.Int).SetUint64(s.Begun))
	case api.Fewest:
		return big.NewInt(int64(-s.Live))
	}
	age := new(big.Int).Sub(new(big.Int).SetUint64(now), new(big.Int).SetUint64(s.Begun))
	if age.Sign() < 0 {
		age.SetInt64(0)
	}
	if most := new(big.Int).Lsh(big.NewInt(1), 58); age.Cmp(most) > 0 {
		age = most
	}
	age.Mul(age, big.NewInt(int64(16-s.Live)))
	return age.Div(age, big.NewInt(int64(s.Live+1)))
}

// plainChoice is the place of the one to choose, 0 if there is none.
func plainChoice(l []api.Seg, way int, now uint64) int {
	best := 0
	for at := len(l) - 1; at > 0; at-- {
		s := l[at]
		if s.State != api.Dirty || s.Live == 16 {
			continue
		}
		if best == 0 || worth(s, way, now).Cmp(worth(l[best], way, now)) >= 0 {
			best = at
		}
	}
	return best
}

// someSegs are right segments in no order, whose numbers are of a size, and often the same.
func someSegs(r *rand.Rand) []api.Seg {
	l := make([]api.Seg, 8+r.IntN(1+r.IntN(249)))
	size := r.IntN(49)
	kinds := 1 + r.IntN(17)
	for at := range l {
		l[at] = api.Seg{Live: r.IntN(kinds), Begun: r.Uint64N(1 << size), State: r.IntN(3)}
		if r.IntN(4) == 0 {
			l[at].Live = 16
		}
	}
	l[0].State = api.Dirty
	return l
}

// P6.1, P6.2, P6.4: segments in no order, against what is plainly worked out.
func TestSegmentsInNoOrder(t *testing.T) {
	r := rand.New(rand.NewPCG(6, 6))
	for range 4000 {
		l := someSegs(r)
		if !usage.Right(l) {
			t.Fatalf("Right(%v) is false", l)
		}
		checkClean(t, l, r.IntN(len(l)))
		now := r.Uint64() >> r.IntN(64)
		for way := range 3 {
			want := plainChoice(l, way, now)
			if want == 0 {
				wantNoChoice(t, l, way, now, api.OK)
				continue
			}
			wantChoice(t, l, way, now, want)
			checkChosen(t, l, way, now)
		}
	}
}

// checkClean asks for the clean ones of segments, and for the next one behind a place.
func checkClean(t *testing.T, l []api.Seg, from int) {
	t.Helper()
	round := append(slices.Clone(l[from+1:]), l[:from+1]...)
	count := 0
	for _, s := range l {
		if s.State == api.Clean {
			count++
		}
	}
	if got := usage.CleanOnes(l); got != count {
		t.Errorf("CleanOnes(%v) = %d", l, got)
	}
	step := slices.IndexFunc(round, func(s api.Seg) bool { return s.State == api.Clean })
	if step < 0 {
		wantNext(t, l, from, 0, false)
		return
	}
	wantNext(t, l, from, (from+1+step)%len(l), true)
}

// checkChosen looks at what P6.4 says of the chosen one.
func checkChosen(t *testing.T, l []api.Seg, way int, now uint64) {
	t.Helper()
	at, _, _ := usage.Choose(l, way, now)
	if at == 0 || l[at].State != api.Dirty || l[at].Live == 16 {
		t.Errorf("Choose by %d: %v at %d", way, l[at], at)
	}
	for place, s := range l[1:] {
		if way == api.Fewest && s.State == api.Dirty && s.Live < l[at].Live {
			t.Errorf("Choose by Fewest: %v, but at %d is %v", l[at], place+1, s)
		}
	}
}

// P6.3: the list with another segment there, and the old one as it was.
func TestSet(t *testing.T) {
	l := segs(8, dirty(4, 5), dirty(2, 9), dirty(16, 1))
	before := slices.Clone(l)
	for _, s := range rightSegs() {
		for _, at := range []int{0, 1, 3, 7} {
			if at == 0 && s.State != api.Dirty {
				continue
			}
			got, err := usage.Set(l, at, s)
			if err != api.OK || !slices.Equal(got, with(l, at, s)) {
				t.Errorf("Set of %v at %d = %v, %d", s, at, got, err)
			}
		}
	}
	if !slices.Equal(l, before) {
		t.Errorf("Set has written into what was handed in: %v", l)
	}
	got, err := usage.Set(segs(256), 255, dirty(3, 4))
	if err != api.OK || len(got) != 256 || got[255] != dirty(3, 4) {
		t.Errorf("Set at 255 of 256: %d segments, %d", len(got), err)
	}
}

func refuseSet(t *testing.T, l []api.Seg, at int, s api.Seg, want api.Errno) {
	t.Helper()
	before := slices.Clone(l)
	if got, err := usage.Set(l, at, s); len(got) != 0 || err != want {
		t.Errorf("Set of %v at %d of %d segments = %v, %d; want nothing, %d", s, at, len(l), got, err, want)
	}
	if !slices.Equal(l, before) {
		t.Errorf("a Set that was refused has written into what was handed in")
	}
}

// P6.3, R1: a place that is none is named first, of wrong segments, too.
func TestSetOfNoPlace(t *testing.T) {
	for _, l := range append(wrongLists(), segs(8), segs(256)) {
		for _, at := range []int{-1, -8, math.MinInt, len(l), len(l) + 1, 1 << 32, math.MaxInt} {
			refuseSet(t, l, at, first(), api.ErrArg)
			refuseSet(t, l, at, api.Seg{State: 3}, api.ErrArg)
		}
	}
	refuseSet(t, nil, 0, first(), api.ErrArg)
}

// P6.3: segments that are not right, or were not with that one there.
func TestSetRefuses(t *testing.T) {
	l := segs(8, dirty(4, 5))
	for _, s := range wrongSegs() {
		for _, at := range []int{0, 1, 7} {
			refuseSet(t, l, at, s, api.ErrUsage)
		}
	}
	for _, state := range []int{api.Clean, api.Active} {
		refuseSet(t, l, 0, api.Seg{State: state}, api.ErrUsage)
	}
	for _, wrong := range wrongLists() {
		for at := range min(len(wrong), 8) {
			refuseSet(t, wrong, at, dirty(1, 1), api.ErrUsage) // not even where the wrong one goes
		}
		if last := len(wrong) - 1; last >= 0 {
			refuseSet(t, wrong, last, dirty(1, 1), api.ErrUsage)
		}
	}
}

// R3: what Set answers is new memory, and the spare room of what is handed in stays as it is.
func TestSetAnswersNewMemory(t *testing.T) {
	room := slices.Repeat([]api.Seg{dirty(7, 7)}, 20)
	room[0] = first()
	l := room[:8]
	one, _ := usage.Set(l, 3, dirty(1, 1))
	two, _ := usage.Set(l, 3, dirty(1, 1))
	same, _ := usage.Set(l, 3, l[3])
	for _, got := range [][]api.Seg{one, two, same} {
		if len(got) != 8 {
			t.Fatalf("Set answers %d segments", len(got))
		}
		all := got[:cap(got)]
		clear(all)
	}
	for at, s := range room[1:] {
		if s != dirty(7, 7) {
			t.Errorf("%v at %d of what was handed in", s, at+1)
		}
	}
	again, _ := usage.Set(l, 3, dirty(1, 1))
	other, _ := usage.Set(l, 3, dirty(2, 2))
	clear(again[:cap(again)])
	if !slices.Equal(other, with(l, 3, dirty(2, 2))) {
		t.Errorf("two answers share memory: %v", other)
	}
}

// R3: calls that ask write nothing into what is handed in.
func TestAskingWritesNothing(t *testing.T) {
	l := segs(8, dirty(4, 5), dirty(2, 9), api.Seg{State: api.Active}, dirty(16, 1))
	before := slices.Clone(l)
	usage.Right(l)
	usage.CleanOnes(l)
	usage.Next(l, 3)
	for way := range 3 {
		usage.Choose(l, way, 10)
	}
	if !slices.Equal(l, before) {
		t.Errorf("what was handed in is %v now", l)
	}
}

// P6.1, P6.3: clean ones are taken in turns, each one behind the one ahead, until none is left.
func TestSegmentsInTurns(t *testing.T) {
	l := segs(16, dirty(3, 3))
	at := 9
	for left := 14; left > 0; left-- {
		if got := usage.CleanOnes(l); got != left {
			t.Fatalf("CleanOnes = %d; want %d", got, left)
		}
		next, ok := usage.Next(l, at)
		want := at + 1
		if want == 16 {
			want = 2 // the first two are dirty
		}
		if next != want || !ok {
			t.Fatalf("Next from %d = %d, %v; want %d", at, next, ok, want)
		}
		l, _ = usage.Set(l, next, api.Seg{State: api.Active})
		at = next
	}
	wantNext(t, l, at, 0, false)
}
