package ring_test

import (
	"math"
	"math/rand/v2"
	"slices"
	"sync"
	"testing"

	"nautilus/ring"
)

// pair is a queue, and what should wait in it.
type pair struct {
	t    *testing.T
	q    *ring.Queue[int]
	size int
	want []int
}

func newPair(t *testing.T, size int) *pair {
	t.Helper()
	q := ring.New[int](size)
	if q == nil {
		t.Fatalf("New(%d) is nil", size)
	}
	p := &pair{t: t, q: q, size: size}
	p.checkCounts()
	return p
}

func (p *pair) put(v int) {
	p.t.Helper()
	room := len(p.want) < p.size
	if room {
		p.want = append(p.want, v)
	}
	if got := p.q.Put(v); got != room {
		p.t.Fatalf("Put(%d) = %v; want %v", v, got, room)
	}
	p.checkCounts()
}

func (p *pair) take() {
	p.t.Helper()
	want, there := 0, len(p.want) > 0
	if there {
		want = p.want[0]
		p.want = p.want[1:]
	}
	if v, ok := p.q.Take(); v != want || ok != there {
		p.t.Fatalf("Take = %d, %v; want %d, %v", v, ok, want, there)
	}
	p.checkCounts()
}

func (p *pair) drain() {
	p.t.Helper()
	if got := p.q.Drain(); !slices.Equal(got, p.want) {
		p.t.Fatalf("Drain = %v; want %v", got, p.want)
	}
	p.want = nil
	p.checkCounts()
}

// puts lays values from from on, rising.
func (p *pair) puts(from int, count int) {
	p.t.Helper()
	for i := range count {
		p.put(from + i)
	}
}

// takes takes so many.
func (p *pair) takes(count int) {
	p.t.Helper()
	for range count {
		p.take()
	}
}

func (p *pair) checkCounts() {
	p.t.Helper()
	if got := p.q.Len(); got != len(p.want) {
		p.t.Fatalf("Len = %d; want %d", got, len(p.want))
	}
	if got := p.q.Size(); got != p.size {
		p.t.Fatalf("Size = %d; want %d", got, p.size)
	}
}

// sizes are those at the edges, and some between.
func sizes() []int {
	return []int{1, 2, 3, 7, 8, 64, 1000, 1023, 1024}
}

// The chapter's limit.
func TestLimit(t *testing.T) {
	if ring.Most != 1024 {
		t.Errorf("Most is %d", ring.Most)
	}
}

// P3.1: the chapter's examples.
func TestCallsOfTheChapter(t *testing.T) {
	q := ring.New[string](1)
	if !q.Put("a") {
		t.Error("Put(a): false")
	}
	if q.Put("b") {
		t.Error("Put(b): true")
	}
	if v, ok := q.Take(); v != "a" || !ok {
		t.Errorf("the first Take = %q, %v", v, ok)
	}
	if v, ok := q.Take(); v != "" || ok {
		t.Errorf("the second Take = %q, %v", v, ok)
	}
	if ring.New[string](0) != nil {
		t.Error("New(0) is a queue")
	}
}

// P3.1: each size from 1 to 1024 may be, and a queue has it.
func TestSizesThatMayBe(t *testing.T) {
	for size := 1; size <= 1024; size++ {
		q := ring.New[int](size)
		if q == nil || q.Size() != size || q.Len() != 0 {
			t.Fatalf("New(%d) is of the size %d, and has %d", size, q.Size(), q.Len())
		}
		if v, ok := q.Take(); v != 0 || ok {
			t.Fatalf("Take of New(%d) = %d, %v", size, v, ok)
		}
	}
}

// P3.1: no other size may be.
func TestSizesThatMayNotBe(t *testing.T) {
	for _, size := range []int{0, -1, -2, -1024, 1025, 1026, 2048, 1 << 16, 1<<32 + 1, math.MinInt, math.MinInt + 1, math.MaxInt} {
		if q := ring.New[int](size); q != nil {
			t.Errorf("New(%d) is a queue of the size %d", size, q.Size())
		}
	}
}

// wantNone asks everything of a queue that has nothing, and is of that size.
func wantNone(t *testing.T, q *ring.Queue[string], size int) {
	t.Helper()
	for range 3 {
		if v, ok := q.Take(); v != "" || ok {
			t.Errorf("Take = %q, %v", v, ok)
		}
		if l := q.Drain(); len(l) != 0 {
			t.Errorf("Drain = %q", l)
		}
		if q.Len() != 0 || q.Size() != size {
			t.Errorf("%d in a queue of the size %d; want none in %d", q.Len(), q.Size(), size)
		}
	}
}

// P3.1 and R2: a queue of none, as New gives it, and as taking and draining leave it.
func TestQueueOfNone(t *testing.T) {
	q := ring.New[string](3)
	wantNone(t, q, 3)
	q.Put("a")
	q.Take()
	wantNone(t, q, 3)
	q.Put("b")
	q.Put("c")
	q.Drain()
	wantNone(t, q, 3)
}

// P3.1 and R4: of a nil queue there is nothing, and nothing can be put there; nor where New gave none, nor in Go's empty value.
func TestNilQueue(t *testing.T) {
	var q *ring.Queue[string]
	for _, q := range []*ring.Queue[string]{q, ring.New[string](0), ring.New[string](1025), {}} {
		wantNone(t, q, 0)
		if q.Put("a") || q.Put("b") {
			t.Error("Put: true")
		}
		wantNone(t, q, 0)
	}
}

// P3.1 and P3.2: as many as the size are put, and no more; what found no room is not in it.
func TestFull(t *testing.T) {
	for _, size := range sizes() {
		p := newPair(t, size)
		p.puts(1, size+5)
		p.take()
		p.put(-1)
		p.put(-2)
		p.takes(size + 3)
		p.puts(1, size+5)
		p.drain()
	}
}

// P3.2: the order stays, however often the place of the first one goes round.
func TestOrderGoingRound(t *testing.T) {
	for _, size := range sizes() {
		for _, step := range []int{1, size/2 + 1, size} {
			p := newPair(t, size)
			p.puts(0, size-step)
			for round := range 7 {
				p.puts((round+1)*10000, step)
				p.takes(step)
			}
			p.drain()
		}
	}
}

// P3.1: Drain answers all in order, leaves none, and the queue goes on.
func TestDrain(t *testing.T) {
	for _, size := range sizes() {
		for _, count := range []int{0, 1, size / 2, size - 1, size, size + 1} {
			p := newPair(t, size)
			p.puts(100, size/2)
			p.takes(size / 2)
			p.puts(5000, count)
			p.drain()
			p.take()
			p.drain()
			p.puts(9000, count)
			p.takes(count)
			p.drain()
		}
	}
}

// P3.2: like ones are each one of their own.
func TestLikeOnes(t *testing.T) {
	p := newPair(t, 4)
	for _, v := range []int{7, 7, 0, 7, 7} {
		p.put(v)
	}
	p.takes(2)
	p.put(7)
	p.put(0)
	p.drain()
}

// P3.1 and P3.2: calls in no order, against a plain list.
func TestCallsInNoOrder(t *testing.T) {
	for seed := range uint64(60) {
		r := rand.New(rand.NewPCG(seed, 3))
		p := newPair(t, 1+r.IntN(12))
		for i := range 600 {
			switch r.IntN(12) {
			case 0:
				p.drain()
			case 1, 2, 3, 4:
				p.take()
			default:
				p.put(i)
			}
		}
		p.drain()
	}
}

// P3.1: queues know nothing of each other.
func TestQueuesStandAlone(t *testing.T) {
	a, b := newPair(t, 3), newPair(t, 3)
	a.puts(1, 3)
	b.puts(100, 2)
	a.take()
	b.drain()
	a.put(4)
	a.drain()
	b.put(5)
	b.take()
}

// P3.1: what waits may be of any type, an empty value of it, too.
func TestValuesOfAnyType(t *testing.T) {
	type point struct{ x, y int }
	points := ring.New[*point](2)
	p := &point{1, 2}
	points.Put(nil)
	points.Put(p)
	if v, ok := points.Take(); v != nil || !ok {
		t.Error("nil waits, and is not found")
	}
	if v, ok := points.Take(); v != p || !ok {
		t.Error("a pointer is not the one that was put")
	}
	if v, ok := points.Take(); v != nil || ok {
		t.Error("a pointer where none waits")
	}
	lists := ring.New[[]byte](1)
	lists.Put([]byte("abc"))
	if v, ok := lists.Take(); string(v) != "abc" || !ok {
		t.Error("a list is not the one that was put")
	}
	nothing := ring.New[struct{}](2)
	if !nothing.Put(struct{}{}) || !nothing.Put(struct{}{}) || nothing.Put(struct{}{}) || len(nothing.Drain()) != 2 {
		t.Error("values without size")
	}
	calls := ring.New[func() int](1)
	calls.Put(func() int { return 7 })
	if v, ok := calls.Take(); !ok || v() != 7 {
		t.Error("a function is not the one that was put")
	}
}

// P3.1 and R1: a value may be greater than a channel's may.
func TestGreatValues(t *testing.T) {
	type great [1 << 17]byte
	q := ring.New[great](2)
	var v great
	v[0], v[len(v)-1] = 1, 2
	if !q.Put(v) || !q.Put(great{}) || q.Put(v) {
		t.Error("Put")
	}
	if got, ok := q.Take(); got != v || !ok {
		t.Error("a great value is not the one that was put")
	}
	if got, ok := q.Take(); got != (great{}) || !ok {
		t.Error("an empty great value is not the one that was put")
	}
}

// P3.1: what was put stays as it was then, whatever becomes of the variable.
func TestValuesStay(t *testing.T) {
	q := ring.New[[2]int](2)
	v := [2]int{1, 2}
	q.Put(v)
	v[0] = 9
	q.Put(v)
	v[1] = 9
	if l := q.Drain(); !slices.Equal(l, [][2]int{{1, 2}, {9, 2}}) {
		t.Errorf("Drain = %v", l)
	}
}

// R3: what Drain answers is new memory, spare room too, and stays as it is.
func TestAnswersAreNewMemory(t *testing.T) {
	p := newPair(t, 5)
	p.puts(1, 5)
	first := p.q.Drain()
	p.want = nil
	p.puts(11, 5)
	if !slices.Equal(first, []int{1, 2, 3, 4, 5}) {
		t.Errorf("what was answered is %v now", first)
	}
	clear(first[:cap(first)])
	p.take()
	p.drain()
}

// P3.1 and P3.2: a queue waits for nobody, whoever else puts and takes; all that was put is taken once, each one's in order.
func TestManyAtOnce(t *testing.T) {
	const putters, each = 4, 250
	q := ring.New[[2]int](putters * each)
	var work sync.WaitGroup
	for who := range putters {
		work.Go(func() {
			for i := range each {
				if !q.Put([2]int{who, i}) {
					t.Errorf("Put of %d's %d: false", who, i)
				}
			}
		})
	}
	var next [putters]int
	count := 0
	see := func(all [][2]int) {
		for _, v := range all {
			if v[1] != next[v[0]] {
				t.Errorf("of %d comes %d; want %d", v[0], v[1], next[v[0]])
			}
			next[v[0]] = v[1] + 1
		}
		count += len(all)
	}
	for range 1000 {
		see(q.Drain())
		if v, ok := q.Take(); ok {
			see([][2]int{v})
		}
	}
	work.Wait()
	see(q.Drain())
	if count != putters*each || q.Len() != 0 {
		t.Errorf("%d are taken of %d, %d are left", count, putters*each, q.Len())
	}
}
