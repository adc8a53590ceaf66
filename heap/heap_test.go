package heap

import (
	"math"
	"math/rand"
	"slices"
	"testing"
	"time"
)

// ids: below 0 and above, small and great.
var ids = []int{math.MinInt, math.MinInt + 1, -1 << 40, -5, -2, -1, 0, 1, 2, 3, 5, 31, 1 << 32, 1 << 40, math.MaxInt - 1, math.MaxInt}

// numbers: what ranks are made of at the edges.
var numbers = []int{math.MinInt, -1 << 40, -2, -1, 0, 1, 2, 1 << 40, math.MaxInt}

// better: P10.1 word by word.
func better(a, b Slot) bool {
	switch {
	case a.Rank[0] != b.Rank[0]:
		return a.Rank[0] > b.Rank[0]
	case a.Rank[1] != b.Rank[1]:
		return a.Rank[1] > b.Rank[1]
	case a.Rank[2] != b.Rank[2]:
		return a.Rank[2] > b.Rank[2]
	}
	return a.Id < b.Id
}

// kept: what a heap is to have, by a map alone.
type kept map[int]Rank

// slots: all of it, the best one first.
func (k kept) slots() []Slot {
	var l []Slot
	for id, rank := range k {
		l = append(l, Slot{id, rank})
	}
	slices.SortFunc(l, func(a, b Slot) int {
		if better(a, b) {
			return -1
		}
		return 1
	})
	return l
}

// check: whether h has what k tells, and stands in an order that P10.3 allows.
func check(t *testing.T, h *Heap, k kept) {
	t.Helper()
	want := k.slots()
	if h.Len() != len(want) {
		t.Fatalf("P10.2: Len: %d, not %d", h.Len(), len(want))
	}
	top, ok := h.Top()
	if ok != (len(want) > 0) || ok && top != want[0] || !ok && top != (Slot{}) {
		t.Fatalf("P10.3: Top: %v, %v of %v", top, ok, want)
	}
	l := h.Slots()
	for i := range l {
		if i > 0 && better(l[i], l[(i-1)/2]) {
			t.Fatalf("P10.3: in %v that at %d is better than that at %d", l, i, (i-1)/2)
		}
	}
	slices.SortFunc(l, func(a, b Slot) int {
		if better(a, b) {
			return -1
		}
		return 1
	})
	if !slices.Equal(l, want) {
		t.Fatalf("P10.3: Slots: %v, not %v", l, want)
	}
	for _, id := range ids {
		rank, has := k[id]
		if got, ok := h.Get(id); got != rank || ok != has {
			t.Fatalf("P10.2: Get of %d: %v, %v; not %v, %v", id, got, ok, rank, has)
		}
	}
	for id, rank := range k {
		if got, ok := h.Get(id); got != rank || !ok {
			t.Fatalf("P10.2: Get of %d: %v, %v; not %v", id, got, ok, rank)
		}
	}
}

// put: Put in both, and whether h is as it should be behind it.
func put(t *testing.T, h *Heap, k kept, id int, rank Rank) {
	t.Helper()
	_, had := k[id]
	k[id] = rank
	if h.Put(id, rank) == had {
		t.Fatalf("P10.2: Put of %d, %v tells %v", id, rank, had)
	}
	check(t, h, k)
}

// drop: Drop in both, and whether h is as it should be behind it.
func drop(t *testing.T, h *Heap, k kept, id int) {
	t.Helper()
	_, had := k[id]
	delete(k, id)
	if h.Drop(id) != had {
		t.Fatalf("P10.2: Drop of %d tells %v", id, !had)
	}
	check(t, h, k)
}

// drain: takes the top one off until none is left, each as it should be.
func drain(t *testing.T, h *Heap, k kept) {
	t.Helper()
	want := k.slots()
	for i := range want {
		top, ok := h.Top()
		if top != want[i] || !ok {
			t.Fatalf("P10.4: taken off behind %d: %v, %v; not %v", i, top, ok, want[i])
		}
		if i > 0 && Better(top, want[i-1]) {
			t.Fatalf("P10.4: %v is better than %v ahead of it", top, want[i-1])
		}
		if !h.Drop(top.Id) {
			t.Fatalf("P10.2: Drop of the top one, %v: false", top)
		}
		delete(k, top.Id)
	}
	check(t, h, k)
}

func TestBetter(t *testing.T) {
	// Each one is better than all behind it.
	falling := []Slot{
		{9, Rank{math.MaxInt, math.MinInt, 0}},
		{9, Rank{2, -1, -1}},
		{9, Rank{1, 2, -9}},
		{9, Rank{1, 1, 2}},
		{3, Rank{1, 1, 1}},
		{5, Rank{1, 1, 1}},
		{-9, Rank{1, 1, 0}},
		{-9, Rank{1, 1, -1}},
		{-9, Rank{1, 0, 9}},
		{-9, Rank{1, -1, 9}},
		{-9, Rank{0, 9, 9}},
		{math.MinInt, Rank{}},
		{-1, Rank{}},
		{0, Rank{}},
		{1, Rank{}},
		{math.MaxInt, Rank{}},
		{0, Rank{-1, 9, 9}},
		{0, Rank{-1, 9, 8}},
		{0, Rank{-1, -1, -1}},
		{0, Rank{-1, -1, -2}},
		{0, Rank{-1, -2, 5}},
		{0, Rank{-2, 5, 5}},
		{0, Rank{math.MinInt, math.MaxInt, math.MaxInt}},
		{0, Rank{math.MinInt, math.MinInt, math.MinInt}},
	}
	for i, a := range falling {
		for j, b := range falling {
			if Better(a, b) != (i < j) {
				t.Errorf("P10.1: Better of %v and %v: %v", a, b, Better(a, b))
			}
		}
	}
}

func TestBetterOfAllNumbers(t *testing.T) {
	for _, a := range numbers {
		for _, b := range numbers {
			for place := range 3 {
				var x, y Slot
				x.Rank[place], y.Rank[place] = a, b
				for _, behind := range []int{math.MinInt, 0, math.MaxInt} {
					if place < 2 {
						y.Rank[place+1] = behind
					}
					y.Id = behind
					if got := Better(x, y); got != better(x, y) {
						t.Errorf("P10.1: Better of %v and %v: %v", x, y, got)
					}
				}
			}
			if got := Better(Slot{Id: a}, Slot{Id: b}); got != (a < b) {
				t.Errorf("P10.1: Better of Ids %d and %d: %v", a, b, got)
			}
		}
	}
}

func TestNew(t *testing.T) {
	h := New()
	if h == nil {
		t.Fatal("P10.2: New tells nil")
	}
	check(t, h, kept{})
	for _, id := range ids {
		drop(t, h, kept{}, id)
	}
	// Two of them have nothing of one another.
	h.Put(1, Rank{1})
	check(t, New(), kept{})
	check(t, h, kept{1: {1}})
}

func TestNil(t *testing.T) {
	var h *Heap
	for _, id := range ids {
		if h.Put(id, Rank{1, 2, 3}) || h.Drop(id) {
			t.Errorf("P10.3: a nil heap tells true of %d", id)
		}
		if rank, ok := h.Get(id); rank != (Rank{}) || ok {
			t.Errorf("P10.3: a nil heap's Get of %d: %v, %v", id, rank, ok)
		}
	}
	if top, ok := h.Top(); top != (Slot{}) || ok || len(h.Slots()) != 0 || h.Len() != 0 {
		t.Errorf("P10.3: a nil heap has %v, %v, %d", top, h.Slots(), h.Len())
	}
}

// TestHeapThatNewDidNotMake: it is without ids, and goes on as one of New does.
func TestHeapThatNewDidNotMake(t *testing.T) {
	var h Heap
	k := kept{}
	check(t, &h, k)
	drop(t, &h, k, 0)
	put(t, &h, k, 5, Rank{1})
	put(t, &h, k, 3, Rank{1})
	drain(t, &h, k)
}

// TestCopyDoesNotPanic: nothing is promised of what it tells.
func TestCopyDoesNotPanic(t *testing.T) {
	r := rand.New(rand.NewSource(1))
	for range 300 {
		a := New()
		for n := range 6 {
			a.Put(n, Rank{r.Intn(3)})
		}
		b := *a
		for range 60 {
			h := []*Heap{a, &b}[r.Intn(2)]
			id := r.Intn(9)
			switch r.Intn(5) {
			case 0, 1:
				h.Drop(id)
			case 2:
				h.Put(id, Rank{r.Intn(3)})
			case 3:
				h.Get(id)
			case 4:
				h.Top()
			}
			if len(h.Slots()) != h.Len() {
				t.Fatal("P10.2: Len is not how many Slots there are")
			}
		}
	}
}

func TestTheTopOneOfOneRank(t *testing.T) {
	h, k := New(), kept{}
	put(t, h, k, 5, Rank{1, 0, 0})
	put(t, h, k, 3, Rank{1, 0, 0})
	if top, ok := h.Top(); top != (Slot{3, Rank{1, 0, 0}}) || !ok {
		t.Errorf("P10.3: Top of 5 and 3: %v, %v", top, ok)
	}
}

func TestPutOfOneThatIsThere(t *testing.T) {
	for _, from := range []Rank{{}, {0, 5, 0}, {7, 0, 1}, {-3, 2, 2}} {
		// Better, worse, and the same.
		for _, to := range []Rank{{}, {9}, {-9}, {0, 5, 1}, {0, 5, -1}, from} {
			for count := range 12 {
				for id := range count {
					h, k := New(), kept{}
					for n := range count {
						put(t, h, k, n, Rank{n % 4, 5, 0})
					}
					put(t, h, k, id, from)
					put(t, h, k, id, to)
					put(t, h, k, id, to)
					drain(t, h, k)
				}
			}
		}
	}
}

func TestDropOfEach(t *testing.T) {
	for count := range 24 {
		for _, step := range []int{1, 5, 7, -1} {
			h, k := New(), kept{}
			for n := range count {
				put(t, h, k, n, Rank{n * step % 24})
			}
			all := h.Slots()
			// The top one, the last one, and those between them.
			for _, s := range all {
				again, still := New(), kept{}
				for _, x := range all {
					put(t, again, still, x.Id, x.Rank)
				}
				drop(t, again, still, s.Id)
				drop(t, again, still, s.Id)
				put(t, again, still, s.Id, s.Rank)
				drop(t, again, still, s.Id)
				drain(t, again, still)
			}
			drop(t, h, k, count)
			drop(t, h, k, -1)
			drain(t, h, k)
		}
	}
}

// TestDropMovesTheLastOneUp: where it ranks above the parent of the one that was dropped.
func TestDropMovesTheLastOneUp(t *testing.T) {
	h, k := New(), kept{}
	for id, n := range []int{100, 10, 90, 5, 6, 80, 85, 1, 2, 3, 4, 70, 75} {
		put(t, h, k, id, Rank{n})
	}
	drop(t, h, k, 7)
	drop(t, h, k, 3)
	drain(t, h, k)
}

func TestIdsBelowNoughtAndGreatOnes(t *testing.T) {
	for _, n := range numbers {
		h, k := New(), kept{}
		for _, id := range ids {
			put(t, h, k, id, Rank{0, n, id})
		}
		for _, id := range ids {
			put(t, h, k, id, Rank{n, id, n})
		}
		for i, id := range ids {
			if i%3 == 0 {
				drop(t, h, k, id)
			}
			drop(t, h, k, id+7)
		}
		drain(t, h, k)
	}
}

func TestManyCalls(t *testing.T) {
	r := rand.New(rand.NewSource(2))
	for _, most := range []int{1, 2, 3, 8, 40} {
		for range 30 {
			h, k := New(), kept{}
			for range 200 {
				id := r.Intn(most) - most/2
				if r.Intn(3) == 0 {
					drop(t, h, k, id)
				} else {
					put(t, h, k, id, Rank{r.Intn(3) - 1, r.Intn(3) - 1, r.Intn(3) - 1})
				}
			}
			drain(t, h, k)
		}
	}
}

// TestTheSameCallsTellTheSame: Slots too, whose order is open.
func TestTheSameCallsTellTheSame(t *testing.T) {
	var told [][]Slot
	for range 2 {
		r, h := rand.New(rand.NewSource(3)), New()
		for range 500 {
			h.Put(r.Intn(50), Rank{r.Intn(9)})
			h.Drop(r.Intn(50))
		}
		told = append(told, h.Slots())
	}
	if !slices.Equal(told[0], told[1]) {
		t.Errorf("R6: the same calls tell %v and %v", told[0], told[1])
	}
}

func TestSlotsAreNewMemory(t *testing.T) {
	h, k := New(), kept{}
	for n := range 9 {
		put(t, h, k, n, Rank{n})
	}
	told := h.Slots()
	once := slices.Clone(told)
	drop(t, h, k, 8)
	put(t, h, k, 0, Rank{99})
	if !slices.Equal(told, once) {
		t.Errorf("R5: an answer was changed by a later call: %v", told)
	}
	clear(h.Slots())
	_ = append(h.Slots(), Slot{}, Slot{})
	check(t, h, k)
	put(t, h, k, 20, Rank{1})
}

// TestMuchIsDoneSoon: as whoever ranks first is to be at hand.
func TestMuchIsDoneSoon(t *testing.T) {
	start := time.Now()
	h := New()
	const many = 200000
	for n := range many {
		h.Put(n, Rank{n * 7919 % many})
	}
	for n := range many {
		h.Put(n, Rank{n * 104729 % many})
	}
	for n := range many / 2 {
		h.Drop(n)
	}
	last := Slot{Rank: Rank{many}}
	for h.Len() > 0 {
		top, _ := h.Top()
		if Better(top, last) || !h.Drop(top.Id) {
			t.Fatalf("P10.4: %v behind %v", top, last)
		}
		last = top
	}
	if took := time.Since(start); took > 20*time.Second {
		t.Errorf("R1: many calls took %v", took)
	}
}
