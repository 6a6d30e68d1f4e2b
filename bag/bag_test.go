package bag_test

import (
	"maps"
	"math"
	"math/rand/v2"
	"slices"
	"testing"

	"nautilus/bag"
)

// pair is a bag, and what should stand in it.
type pair struct {
	t    *testing.T
	b    *bag.Bag[int]
	want map[int64]int
}

func newPair(t *testing.T) *pair {
	return &pair{t, bag.New[int](), map[int64]int{}}
}

func (p *pair) put(at int64, v int) {
	p.t.Helper()
	_, there := p.want[at]
	p.want[at] = v
	if got := p.b.Put(at, v); got != there {
		p.t.Fatalf("Put(%d, %d) = %v; want %v", at, v, got, there)
	}
	p.checkShape()
}

func (p *pair) drop(at int64) {
	p.t.Helper()
	_, there := p.want[at]
	delete(p.want, at)
	if got := p.b.Drop(at); got != there {
		p.t.Fatalf("Drop(%d) = %v; want %v", at, got, there)
	}
	p.checkShape()
}

// get asks for what stands at a number, or should not.
func (p *pair) get(at int64) {
	p.t.Helper()
	want, there := p.want[at]
	if v, ok := p.b.Get(at); v != want || ok != there {
		p.t.Fatalf("Get(%d) = %d, %v; want %d, %v", at, v, ok, want, there)
	}
}

// checkShape asks for the shape and the length: nodes of 3 to 7 (the top one of 1 to 7), k + 1 of them below one of k, as many numbers as should stand.
func (p *pair) checkShape() {
	p.t.Helper()
	if got := p.b.Len(); got != len(p.want) {
		p.t.Fatalf("Len = %d; want %d", got, len(p.want))
	}
	wantRightShape(p.t, p.b.Shape(), len(p.want))
}

func wantRightShape(t *testing.T, shape [][]int, count int) {
	t.Helper()
	nodes, all := 1, 0
	for i, row := range shape {
		if len(row) != nodes {
			t.Fatalf("level %d has %d nodes; want %d: %v", i, len(row), nodes, shape)
		}
		nodes = 0
		for _, k := range row {
			if k > 7 || k < 1 || i > 0 && k < 3 {
				t.Fatalf("a node of %d numbers at level %d: %v", k, i, shape)
			}
			nodes += k + 1
			all += k
		}
	}
	if all != count {
		t.Fatalf("%d numbers in %v; want %d", all, shape, count)
	}
}

// checkAll asks for everything that stands, and for the gaps beside it.
func (p *pair) checkAll() {
	p.t.Helper()
	p.checkShape()
	keys := slices.Sorted(maps.Keys(p.want))
	for i, at := range keys {
		p.get(at)
		if at > math.MinInt64 {
			p.get(at - 1)
			p.wantNext(at-1, keys[max(0, i-1):])
		}
		if at < math.MaxInt64 {
			p.get(at + 1)
			p.wantNext(at+1, keys[i:])
		}
		p.wantNext(at, keys[i:])
	}
	var all []int64
	for at, ok := p.b.Next(math.MinInt64); ok; at, ok = p.b.Next(at + 1) {
		all = append(all, at)
		if at == math.MaxInt64 {
			break
		}
	}
	if !slices.Equal(all, keys) {
		p.t.Fatalf("Next goes through %v; want %v", all, keys)
	}
	p.wantKeys(math.MinInt64, math.MaxInt64)
}

// wantNext asks for the next number, which is the first of keys that is not below at.
func (p *pair) wantNext(at int64, keys []int64) {
	p.t.Helper()
	want, ok := int64(0), false
	for _, k := range keys {
		if k >= at {
			want, ok = k, true
			break
		}
	}
	if got, there := p.b.Next(at); got != want || there != ok {
		p.t.Fatalf("Next(%d) = %d, %v; want %d, %v", at, got, there, want, ok)
	}
}

func (p *pair) wantKeys(from int64, to int64) {
	p.t.Helper()
	var want []int64
	for _, at := range slices.Sorted(maps.Keys(p.want)) {
		if at >= from && at < to {
			want = append(want, at)
		}
	}
	if got := p.b.Keys(from, to); !slices.Equal(got, want) {
		p.t.Fatalf("Keys(%d, %d) = %v; want %v", from, to, got, want)
	}
}

// drops takes the numbers out one by one, with all that is left asked for now and then.
func (p *pair) drops(order []int64) {
	p.t.Helper()
	for i, at := range order {
		p.drop(at)
		p.get(at)
		if i%37 == 0 {
			p.checkAll()
		}
	}
	p.checkAll()
}

func rising(count int) []int64 {
	order := make([]int64, count)
	for i := range order {
		order[i] = int64(i)
	}
	return order
}

func falling(count int) []int64 {
	order := rising(count)
	slices.Reverse(order)
	return order
}

// mixed is rising numbers in another order, the same for the same seed.
func mixed(count int, seed uint64) []int64 {
	order := rising(count)
	rand.New(rand.NewPCG(seed, 1)).Shuffle(count, func(i int, j int) { order[i], order[j] = order[j], order[i] })
	return order
}

// inward is the least number, the greatest one, the next ones of both, up to the middle.
func inward(count int) []int64 {
	var order []int64
	for low, high := 0, count-1; low <= high; low, high = low+1, high-1 {
		order = append(order, int64(low))
		if low < high {
			order = append(order, int64(high))
		}
	}
	return order
}

func orders(count int) [][]int64 {
	outward := inward(count)
	slices.Reverse(outward)
	return [][]int64{rising(count), falling(count), inward(count), outward, mixed(count, 1), mixed(count, 2)}
}

// P2.1: the chapter's example, with the shape behind each call.
func TestCallsOfTheChapter(t *testing.T) {
	b := bag.New[string]()
	wantShape := func(want ...[]int) {
		t.Helper()
		if got := b.Shape(); !slices.EqualFunc(got, want, slices.Equal) {
			t.Errorf("Shape = %v; want %v", got, want)
		}
	}
	wantShape()
	if b.Put(5, "a") {
		t.Error("the first Put(5): true")
	}
	wantShape([]int{1})
	if !b.Put(5, "b") {
		t.Error("the second Put(5): false")
	}
	wantShape([]int{1})
	if v, ok := b.Get(5); v != "b" || !ok || b.Len() != 1 {
		t.Errorf("Get(5) = %q, %v, of %d", v, ok, b.Len())
	}
	wantShape([]int{1})
	if !b.Drop(5) {
		t.Error("the first Drop(5): false")
	}
	wantShape()
	if b.Drop(5) {
		t.Error("the second Drop(5): true")
	}
	wantShape()
	if v, ok := b.Get(5); v != "" || ok || b.Len() != 0 {
		t.Errorf("Get(5) behind Drop = %q, %v, of %d", v, ok, b.Len())
	}
}

// wantNone asks everything of a bag in which nothing stands.
func wantNone(t *testing.T, b *bag.Bag[string]) {
	t.Helper()
	for _, at := range []int64{0, 1, -1, math.MinInt64, math.MaxInt64} {
		if v, ok := b.Get(at); v != "" || ok {
			t.Errorf("Get(%d) = %q, %v", at, v, ok)
		}
		if b.Drop(at) {
			t.Errorf("Drop(%d): true", at)
		}
		if next, ok := b.Next(at); next != 0 || ok {
			t.Errorf("Next(%d) = %d, %v", at, next, ok)
		}
	}
	for _, x := range [][2]int64{{math.MinInt64, math.MaxInt64}, {0, 0}, {1, -1}} {
		if keys := b.Keys(x[0], x[1]); len(keys) != 0 {
			t.Errorf("Keys(%d, %d) = %v", x[0], x[1], keys)
		}
	}
	if b.Len() != 0 || len(b.Shape()) != 0 {
		t.Errorf("%d numbers in %v", b.Len(), b.Shape())
	}
}

// P2.1 to P2.3: a bag of none, as New gives it, as dropping leaves it, and as Go's empty value is.
func TestBagOfNone(t *testing.T) {
	b := bag.New[string]()
	if b == nil {
		t.Fatal("New is nil")
	}
	wantNone(t, b)
	for i := range int64(100) {
		b.Put(i, "x")
	}
	for i := range int64(100) {
		b.Drop(i)
	}
	wantNone(t, b)
	empty := &bag.Bag[string]{}
	wantNone(t, empty)
	if empty.Put(3, "a") || !empty.Put(3, "b") || empty.Len() != 1 {
		t.Error("Put to an empty value")
	}
}

// P2.1 and R4: of a nil bag there is nothing, and nothing can be put there.
func TestNilBag(t *testing.T) {
	var b *bag.Bag[string]
	wantNone(t, b)
	if b.Put(5, "a") || b.Put(5, "b") {
		t.Error("Put: true")
	}
	wantNone(t, b)
}

// P2.1: bags know nothing of each other.
func TestBagsStandAlone(t *testing.T) {
	a, b := newPair(t), newPair(t)
	for i := range 60 {
		a.put(int64(i), i)
		b.put(int64(i*3), -i)
	}
	for i := range 30 {
		a.drop(int64(i * 2))
	}
	a.checkAll()
	b.checkAll()
}

// P2.1: what stands there may be of any type, an empty value of it, too.
func TestValuesOfAnyType(t *testing.T) {
	type point struct{ x, y int }
	points := bag.New[*point]()
	p := &point{1, 2}
	points.Put(1, p)
	points.Put(2, nil)
	if v, ok := points.Get(1); v != p || !ok {
		t.Error("a pointer is not the one that was put")
	}
	if v, ok := points.Get(2); v != nil || !ok {
		t.Error("nil stands there, and is not found")
	}
	lists := bag.New[[]byte]()
	lists.Put(1, []byte("abc"))
	if v, ok := lists.Get(1); string(v) != "abc" || !ok {
		t.Error("a list is not the one that was put")
	}
	if v, ok := lists.Get(2); v != nil || ok {
		t.Error("a list where nothing stands")
	}
	nothing := bag.New[struct{}]()
	for i := range int64(20) {
		nothing.Put(i, struct{}{})
	}
	if _, ok := nothing.Get(19); !ok || nothing.Len() != 20 {
		t.Error("values without size")
	}
	calls := bag.New[func() int]()
	calls.Put(1, func() int { return 7 })
	if v, ok := calls.Get(1); !ok || v() != 7 {
		t.Error("a function is not the one that was put")
	}
}

// P2.1: the value put last stands, at whichever level the number is, and no other one is changed.
func TestPutWhereSomethingStands(t *testing.T) {
	for count := 1; count <= 80; count++ {
		p := newPair(t)
		for _, at := range mixed(count, uint64(count)) {
			p.put(at, int(at))
		}
		for at := range int64(count) {
			p.put(at, -1000-int(at))
			p.put(at, 0)
			p.get(at)
			p.put(at, 1000+int(at))
		}
		p.checkAll()
	}
}

// P2.1: the least and the greatest number are numbers like others.
func TestEndsOfTheNumbers(t *testing.T) {
	p := newPair(t)
	ends := []int64{math.MaxInt64, math.MinInt64, 0, -1, math.MaxInt64 - 1, math.MinInt64 + 1, 1, 1 << 32, -1 << 32}
	for i, at := range ends {
		p.drop(at)
		p.put(at, i+1)
		p.checkAll()
	}
	for i, at := range ends {
		p.put(at, -i-1)
	}
	p.checkAll()
	for _, at := range ends {
		p.drop(at)
		p.drop(at)
		p.checkAll()
	}
}

// P2.1: calls where nothing stands change nothing, whatever stands beside it.
func TestIdleCalls(t *testing.T) {
	for _, count := range []int{0, 1, 3, 7, 8, 31, 32, 200} {
		p := newPair(t)
		for _, at := range mixed(count, 3) {
			p.put(at*2, int(at)+1)
		}
		for at := int64(-3); at < int64(2*count)+3; at++ {
			if at%2 == 0 && at >= 0 && at < int64(2*count) {
				continue
			}
			p.get(at)
			p.drop(at)
		}
		p.drop(math.MinInt64)
		p.drop(math.MaxInt64)
		p.checkAll()
	}
}

// P2.2: all stretches of a bag, those that begin beyond their end among them.
func TestKeys(t *testing.T) {
	for _, count := range []int{1, 3, 7, 8, 9, 40, 75} {
		p := newPair(t)
		for _, at := range mixed(count, 4) {
			p.put(at*2-20, 0)
		}
		last := int64(2*count) - 20
		for from := int64(-22); from <= last+1; from++ {
			for to := int64(-22); to <= last+1; to++ {
				p.wantKeys(from, to)
			}
			p.wantKeys(from, math.MaxInt64)
			p.wantKeys(math.MinInt64, from)
			p.wantKeys(from, math.MinInt64)
			p.wantKeys(math.MaxInt64, from)
		}
	}
}

// P2.2: a stretch has the number at which it begins, and not that at which it ends.
func TestKeysAtTheEnds(t *testing.T) {
	b := bag.New[int]()
	for _, at := range []int64{10, math.MaxInt64, 12, math.MinInt64, 11} {
		b.Put(at, 0)
	}
	for _, x := range []struct {
		from, to int64
		want     []int64
	}{
		{10, 12, []int64{10, 11}},
		{10, 13, []int64{10, 11, 12}},
		{11, 12, []int64{11}},
		{11, 11, nil},
		{12, 10, nil},
		{9, 10, nil},
		{13, 13, nil},
		{13, math.MaxInt64, nil},
		{math.MaxInt64, math.MaxInt64, nil},
		{math.MaxInt64, math.MinInt64, nil},
		{math.MinInt64, math.MinInt64, nil},
		{math.MinInt64, math.MinInt64 + 1, []int64{math.MinInt64}},
		{math.MinInt64, math.MaxInt64, []int64{math.MinInt64, 10, 11, 12}},
	} {
		if got := b.Keys(x.from, x.to); !slices.Equal(got, x.want) {
			t.Errorf("Keys(%d, %d) = %v; want %v", x.from, x.to, got, x.want)
		}
	}
}

// P2.2: the next number is the one asked for, if something stands there; behind the last one there is none.
func TestNext(t *testing.T) {
	b := bag.New[int]()
	for _, at := range []int64{-7, 0, 5} {
		b.Put(at, 1)
	}
	for _, x := range []struct {
		at, want int64
		ok       bool
	}{
		{math.MinInt64, -7, true},
		{-8, -7, true},
		{-7, -7, true},
		{-6, 0, true},
		{0, 0, true},
		{1, 5, true},
		{5, 5, true},
		{6, 0, false},
		{math.MaxInt64, 0, false},
	} {
		if got, ok := b.Next(x.at); got != x.want || ok != x.ok {
			t.Errorf("Next(%d) = %d, %v; want %d, %v", x.at, got, ok, x.want, x.ok)
		}
	}
	b.Put(math.MaxInt64, 1)
	if got, ok := b.Next(math.MaxInt64); got != math.MaxInt64 || !ok {
		t.Errorf("Next of the greatest number = %d, %v", got, ok)
	}
}

// P2.3: up to 7 numbers there is one node; with the next one there are two below it, and dropping makes it one again.
func TestFirstNodeAboveOthers(t *testing.T) {
	for _, order := range orders(8) {
		p := newPair(t)
		for i, at := range order[:7] {
			p.put(at, int(at))
			if got := p.b.Shape(); !slices.EqualFunc(got, [][]int{{i + 1}}, slices.Equal) {
				t.Fatalf("%v: %v", order[:i+1], got)
			}
		}
		p.put(order[7], 7)
		got := p.b.Shape()
		if len(got) != 2 || !slices.Equal(got[0], []int{1}) || !slices.Equal(slices.Sorted(slices.Values(got[1])), []int{3, 4}) {
			t.Fatalf("%v: %v; want one node of 1 number, and two of 3 and 4", order, got)
		}
		p.checkAll()
		for i, at := range order {
			p.drop(at)
			p.checkAll()
			left := 7 - i
			if got := p.b.Shape(); left < 7 && left > 0 && !slices.EqualFunc(got, [][]int{{left}}, slices.Equal) {
				t.Fatalf("%d left of %v: %v", left, order, got)
			}
		}
		if got := p.b.Shape(); len(got) != 0 {
			t.Fatalf("none left: %v", got)
		}
	}
}

// P2.3: the top one and those below it take in numbers, part, and come together, again and again at the same edge.
func TestShapeAtTheEdges(t *testing.T) {
	for count := 1; count <= 150; count++ {
		p := newPair(t)
		for at := range int64(count) {
			p.put(at, int(at))
		}
		for _, at := range []int64{int64(count), -1, int64(count) / 2, 0, int64(count) - 1} {
			_, there := p.want[at]
			for range 3 {
				if there {
					p.drop(at)
					p.put(at, 7)
				} else {
					p.put(at, 7)
					p.drop(at)
				}
			}
		}
		p.checkAll()
	}
}

// P2.3: of many numbers, too, each node is right; levels are no more than nodes of 3 make them.
func TestShapeOfMany(t *testing.T) {
	const count = 30000
	for _, order := range orders(count) {
		b := bag.New[int64]()
		for _, at := range order {
			b.Put(at, -at)
		}
		shape := b.Shape()
		wantRightShape(t, shape, count)
		if len(shape) < 5 || len(shape) > 7 {
			t.Errorf("%d levels", len(shape))
		}
		for _, at := range order[:count-100] {
			if v, ok := b.Get(at); v != -at || !ok || !b.Drop(at) {
				t.Fatalf("%d, %v at %d", v, ok, at)
			}
		}
		wantRightShape(t, b.Shape(), 100)
		rest := slices.Sorted(slices.Values(order[count-100:]))
		if got := b.Keys(math.MinInt64, math.MaxInt64); !slices.Equal(got, rest) {
			t.Errorf("%v; want %v", got, rest)
		}
	}
}

// P2.4: in whichever order numbers are put, and dropped again, the same stands there.
func TestOrdersMakeNoDifference(t *testing.T) {
	for _, count := range []int{3, 7, 8, 20, 64, 300} {
		for _, puts := range orders(count) {
			for _, drops := range orders(count) {
				p := newPair(t)
				for _, at := range puts {
					p.put(at, int(at)*5+1)
				}
				p.checkAll()
				p.drops(drops)
			}
		}
	}
}

// P2.4: what is put and dropped between makes no difference to what stands.
func TestDroppedOnesMakeNoDifference(t *testing.T) {
	for _, order := range orders(250) {
		p := newPair(t)
		for i, at := range order {
			p.put(at*2+1, i)
			p.put(at*2, -i)
			if i%3 == 0 {
				p.drop(order[i/2] * 2)
			}
			if i%5 == 0 {
				p.put(at*2+1, 77)
				p.drop(at*2 + 1)
				p.put(at*2+1, i)
			}
		}
		for _, at := range order {
			p.drop(at * 2)
		}
		p.checkAll()
		plain := newPair(t)
		for i, at := range order {
			plain.put(at*2+1, i)
		}
		plain.checkAll()
		if !maps.Equal(p.want, plain.want) {
			t.Fatal("the two were to have the same")
		}
	}
}

// P2.4: what is put at a number that was dropped is what stands there, and nothing of what stood ahead.
func TestPutBehindDrop(t *testing.T) {
	p := newPair(t)
	for _, at := range mixed(60, 5) {
		p.put(at, 1)
	}
	for _, at := range mixed(60, 6) {
		p.drop(at)
		p.get(at)
		p.put(at, 2+int(at))
		p.get(at)
	}
	p.checkAll()
}

// P2.1 to P2.4: calls in no order, of bags that grow, stay, and shrink.
func TestCallsInNoOrder(t *testing.T) {
	for seed := range uint64(12) {
		r := rand.New(rand.NewPCG(seed, 2))
		p := newPair(t)
		span := []int64{6, 20, 90, 700}[seed%4]
		for i := range 2400 {
			at := r.Int64N(span) - span/2
			puts := 3 + i/600%2*4 // of ten calls, by turns few and many
			if r.IntN(10) < puts {
				p.put(at, i)
			} else {
				p.drop(at)
			}
			p.get(at)
			if i%97 == 0 {
				p.checkAll()
				p.wantKeys(at, at+r.Int64N(span))
				p.wantKeys(at+1, at)
			}
		}
		p.checkAll()
	}
}

// R3: what is answered is new memory; what is done with it, or with its spare room, changes nothing.
func TestAnswersAreNewMemory(t *testing.T) {
	p := newPair(t)
	for at := range int64(300) {
		p.put(at, int(at))
	}
	keys, shape := p.b.Keys(0, 300), p.b.Shape()
	wantKeys, wantShape := slices.Clone(keys), make([][]int, len(shape))
	for i, row := range shape {
		wantShape[i] = slices.Clone(row)
	}
	for i, row := range shape {
		clear(row[len(row):cap(row)])
		if !slices.EqualFunc(shape, wantShape, slices.Equal) {
			t.Fatalf("the row %d has spare room that others stand in", i)
		}
	}
	for _, row := range shape {
		clear(row)
	}
	clear(keys[:cap(keys)])
	if got := p.b.Keys(0, 300); !slices.Equal(got, wantKeys) {
		t.Error("Keys answers what was answered ahead")
	}
	if got := p.b.Shape(); !slices.EqualFunc(got, wantShape, slices.Equal) {
		t.Error("Shape answers what was answered ahead")
	}
	p.checkAll()
}

// R3: what was answered stays as it is, whatever the bag does.
func TestAnswersStay(t *testing.T) {
	p := newPair(t)
	for at := range int64(8) {
		p.put(at, int(at))
	}
	keys, shape := p.b.Keys(2, 6), p.b.Shape()
	sizes := slices.Clone(shape[1])
	p.drops(rising(8))
	if !slices.Equal(keys, []int64{2, 3, 4, 5}) {
		t.Errorf("the keys are %v now", keys)
	}
	if len(shape) != 2 || !slices.Equal(shape[0], []int{1}) || !slices.Equal(shape[1], sizes) {
		t.Errorf("the shape is %v now", shape)
	}
}

// The chapter's limits of nodes.
func TestLimits(t *testing.T) {
	if bag.Most != 7 || bag.Least != 3 {
		t.Errorf("Most %d, Least %d", bag.Most, bag.Least)
	}
}
