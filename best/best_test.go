package best

import (
	"math"
	"math/rand"
	"slices"
	"strings"
	"testing"
	"time"

	"rollcall/api"
	"rollcall/heap"
)

// numbers: at the ends of what an int holds, of what a half of one does, and of what a float tells apart; rising.
var numbers = []int{
	math.MinInt, math.MinInt + 1, -1<<62 - 1, -1 << 62, -1<<53 - 1, -1 << 53, -1<<33 + 1, -1<<32 - 1, -1 << 32, -1<<32 + 1, -1<<31 - 1, -1 << 31, -129, -128, -2, -1,
	0, 1, 2, 4, 5, 127, 128, 1<<31 - 1, 1 << 31, 1<<32 - 1, 1 << 32, 1<<32 + 1, 1 << 40, 1<<40 + 1, 1<<53 - 1, 1 << 53, 1<<53 + 1, 1 << 62, 1<<62 + 1, math.MaxInt - 1, math.MaxInt,
}

// few: those of numbers that are the hardest to tell apart.
var few = []int{math.MinInt, math.MinInt + 1, -1<<53 - 1, -1 << 53, -1 << 32, -1, 0, 1, 1<<32 - 1, 1 << 32, 1 << 53, 1<<53 + 1, math.MaxInt - 1, math.MaxInt}

// some: a session of these, with a Status of its own.
func some(id, show, prio, since int, status string) api.Session {
	return api.Session{User: "u" + status, Id: id, Value: api.Value{Show: show, Prio: prio, Since: since, Status: status}}
}

// same: whether a and b have one Slot, word by word.
func same(a, b api.Session) bool {
	return a.Id == b.Id && a.Value.Prio == b.Value.Prio && a.Value.Since == b.Value.Since
}

// better: whether a's Slot is better than b's, word by word.
func better(a, b api.Session) bool {
	switch {
	case a.Value.Prio != b.Value.Prio:
		return a.Value.Prio > b.Value.Prio
	case a.Value.Since != b.Value.Since:
		return a.Value.Since > b.Value.Since
	}
	return a.Id < b.Id
}

// wanted: P11.2 and P11.3 word by word.
func wanted(l []api.Session) (api.Session, api.Value, bool) {
	for i, s := range l {
		is, v := true, s.Value
		for j, x := range l {
			is = is && (better(s, x) || same(s, x) && i <= j)
			if x.Value.Show > v.Show {
				v.Show = x.Value.Show
			}
		}
		if is {
			return s, v, true
		}
	}
	return api.Session{}, api.Value{}, false
}

// check: whether Best and Value of l are as they should be.
func check(t *testing.T, l []api.Session) {
	t.Helper()
	s, v, has := wanted(l)
	if got, ok := Best(l); got != s || ok != has {
		t.Fatalf("P11.2: Best of %v: %v, %v; not %v, %v", l, got, ok, s, has)
	}
	if got, ok := Value(l); got != v || ok != has {
		t.Fatalf("P11.3: Value of %v: %v, %v; not %v, %v", l, got, ok, v, has)
	}
}

// orders: l in each order.
func orders(l []api.Session) [][]api.Session {
	if len(l) == 0 {
		return [][]api.Session{nil}
	}
	var all [][]api.Session
	for i, s := range l {
		for _, rest := range orders(slices.Concat(l[:i], l[i+1:])) {
			all = append(all, append([]api.Session{s}, rest...))
		}
	}
	return all
}

func TestSlotAndShown(t *testing.T) {
	for _, c := range []struct {
		s           api.Session
		slot, shown heap.Slot
	}{
		{api.Session{}, heap.Slot{}, heap.Slot{}},
		{some(2, 3, 5, 7, "x"), heap.Slot{Id: 2, Rank: heap.Rank{5, 7, 0}}, heap.Slot{Id: 2, Rank: heap.Rank{3, 5, 7}}},
		{some(-1, -2, -3, -4, ""), heap.Slot{Id: -1, Rank: heap.Rank{-3, -4, 0}}, heap.Slot{Id: -1, Rank: heap.Rank{-2, -3, -4}}},
		{some(0, 4, -128, 1<<40, strings.Repeat("s", 99)), heap.Slot{Rank: heap.Rank{-128, 1 << 40, 0}}, heap.Slot{Rank: heap.Rank{4, -128, 1 << 40}}},
		{some(math.MaxInt, math.MinInt, math.MaxInt, math.MaxInt-1, "\xff"), heap.Slot{Id: math.MaxInt, Rank: heap.Rank{math.MaxInt, math.MaxInt - 1, 0}}, heap.Slot{Id: math.MaxInt, Rank: heap.Rank{math.MinInt, math.MaxInt, math.MaxInt - 1}}},
	} {
		if got := Slot(c.s); got != c.slot {
			t.Errorf("P11.1: Slot of %v: %v", c.s, got)
		}
		if got := Shown(c.s); got != c.shown {
			t.Errorf("P11.1: Shown of %v: %v", c.s, got)
		}
	}
	for i, n := range numbers {
		m := numbers[len(numbers)-1-i]
		s := some(m, n, m, n, "")
		if got := Slot(s); got != (heap.Slot{Id: m, Rank: heap.Rank{m, n, 0}}) {
			t.Errorf("P11.1: Slot of %v: %v", s, got)
		}
		if got := Shown(s); got != (heap.Slot{Id: m, Rank: heap.Rank{n, m, n}}) {
			t.Errorf("P11.1: Shown of %v: %v", s, got)
		}
	}
}

func TestNoSession(t *testing.T) {
	for _, l := range [][]api.Session{nil, {}, make([]api.Session, 0, 9)} {
		if s, ok := Best(l); s != (api.Session{}) || ok {
			t.Errorf("P11.2: Best of none: %v, %v", s, ok)
		}
		if v, ok := Value(l); v != (api.Value{}) || ok {
			t.Errorf("P11.3: Value of none: %v, %v", v, ok)
		}
	}
}

func TestOneSession(t *testing.T) {
	for _, s := range []api.Session{{}, some(0, 1, 0, 0, ""), some(3, 4, 127, 1<<40, "here"), some(-1, -5, -999, -1, "\n"), {User: "No Name!"}} {
		if got, ok := Best([]api.Session{s}); got != s || !ok {
			t.Errorf("P11.2: Best of %v alone: %v, %v", s, got, ok)
		}
		if got, ok := Value([]api.Session{s}); got != s.Value || !ok {
			t.Errorf("P11.3: Value of %v alone: %v, %v", s, got, ok)
		}
	}
	for _, n := range numbers {
		check(t, []api.Session{some(n, n, n, n, "")})
	}
}

func TestSome(t *testing.T) {
	for i, c := range []struct {
		l    []api.Session
		best int
		show int
	}{
		// By Prio, whatever Since, Id and Show.
		{[]api.Session{some(0, 4, 1, 9, "a"), some(1, 2, 5, 3, "b")}, 1, 4},
		{[]api.Session{some(0, 1, -1, 9, "a"), some(1, 1, -2, 10, "b")}, 0, 1},
		{[]api.Session{some(3, 1, 0, 0, "a"), some(0, 4, -128, 1<<40, "b")}, 0, 4},
		// By Since where the Prios are the same, whatever Id and Show.
		{[]api.Session{some(0, 4, 5, 3, "a"), some(1, 1, 5, 4, "b")}, 1, 4},
		{[]api.Session{some(3, 3, 5, 4, "a"), some(0, 3, 5, 3, "b")}, 0, 3},
		{[]api.Session{some(1, 2, 0, -4, "a"), some(0, 1, 0, -5, "b")}, 0, 2},
		// By Id where both are the same: the one below.
		{[]api.Session{some(1, 4, 5, 3, "a"), some(0, 1, 5, 3, "b")}, 1, 4},
		{[]api.Session{some(0, 1, 5, 3, "a"), some(1, 4, 5, 3, "b")}, 0, 4},
		{[]api.Session{some(0, 1, 0, 0, "a"), some(-1, 1, 0, 0, "b")}, 1, 1},
		// Of one Slot the first one.
		{[]api.Session{some(2, 1, 5, 3, "a"), some(2, 4, 5, 3, "b")}, 0, 4},
		{[]api.Session{some(2, 4, 5, 3, "b"), some(2, 1, 5, 3, "a")}, 0, 4},
		{[]api.Session{some(2, 1, 4, 3, "a"), some(2, 1, 5, 3, "b"), some(2, 1, 5, 3, "c"), some(3, 1, 5, 3, "d")}, 1, 1},
		// More: the best one first, in the middle, and last.
		{[]api.Session{some(0, 1, 9, 0, "a"), some(1, 2, 8, 9, "b"), some(2, 3, 7, 9, "c")}, 0, 3},
		{[]api.Session{some(0, 2, 8, 9, "a"), some(1, 1, 9, 0, "b"), some(2, 3, 7, 9, "c")}, 1, 3},
		{[]api.Session{some(0, 3, 7, 9, "a"), some(1, 2, 8, 9, "b"), some(2, 1, 9, 0, "c")}, 2, 3},
		// Shows below 0: the greatest one is above the best one's.
		{[]api.Session{some(0, -9, 9, 0, "a"), some(1, -3, 8, 0, "b"), some(2, -4, 8, 0, "c")}, 0, -3},
		{[]api.Session{some(0, 0, 0, 0, "a"), some(1, math.MaxInt, -1, 0, "b")}, 0, math.MaxInt},
		{[]api.Session{some(0, math.MinInt, 0, 0, "a"), some(1, math.MinInt, -1, 0, "b")}, 0, math.MinInt},
	} {
		if got, ok := Best(c.l); got != c.l[c.best] || !ok {
			t.Errorf("P11.2: case %d: Best: %v, %v", i, got, ok)
		}
		want := c.l[c.best].Value
		want.Show = c.show
		if got, ok := Value(c.l); got != want || !ok {
			t.Errorf("P11.3: case %d: Value: %v, %v; not %v", i, got, ok, want)
		}
	}
}

// TestPrioAndSinceOfAllNumbers: two sessions that differ in one of these, and the other way in what counts less.
func TestPrioAndSinceOfAllNumbers(t *testing.T) {
	for _, m := range numbers {
		for _, n := range numbers {
			for _, k := range few {
				check(t, []api.Session{some(0, 1, m, k, "a"), some(1, 2, n, -k, "b")})
				check(t, []api.Session{some(1, 1, m, -k, "a"), some(0, 2, n, k, "b")})
				check(t, []api.Session{some(0, 2, k, m, "a"), some(1, 1, k, n, "b")})
				check(t, []api.Session{some(1, 2, k, m, "a"), some(0, 1, k, n, "b")})
				check(t, []api.Session{some(m, n, k, k, "a"), some(n, m, k, k, "b")})
			}
		}
	}
}

func TestPairsOfFewNumbers(t *testing.T) {
	for _, a := range few {
		for _, b := range few {
			for _, c := range few {
				for _, d := range few {
					check(t, []api.Session{some(5, c, a, b, "a"), some(5, b, c, d, "b")})
				}
			}
		}
	}
}

func TestRandomSessions(t *testing.T) {
	r := rand.New(rand.NewSource(1))
	ties := 0
	for range 20000 {
		most := []int{1, 2, 3, math.MaxInt}[r.Intn(4)]
		wide := r.Intn(2) == 0
		number := func() int {
			if wide && r.Intn(2) == 0 {
				return numbers[r.Intn(len(numbers))]
			}
			return r.Intn(most) - most/2
		}
		var l []api.Session
		for range r.Intn(9) {
			l = append(l, some(r.Intn(3)-1, number(), number(), number(), string(rune('a'+len(l)))))
		}
		check(t, l)
		first, _ := Best(l)
		for _, s := range l {
			if s != first && same(s, first) {
				ties++
			}
		}
	}
	if ties < 500 {
		t.Errorf("P11.2: only %d were of the best one's Slot", ties)
	}
}

// TestBestIsByHeap: as heap.Better has it, too.
func TestBestIsByHeap(t *testing.T) {
	r := rand.New(rand.NewSource(2))
	for range 5000 {
		h := heap.New()
		var l []api.Session
		for id := range 1 + r.Intn(6) {
			s := some(id, r.Intn(5), few[r.Intn(len(few))], few[r.Intn(len(few))], "")
			h.Put(s.Id, Slot(s).Rank)
			l = append(l, s)
		}
		top, _ := h.Top()
		if got, ok := Best(l); Slot(got) != top || !ok {
			t.Fatalf("P11.2: Best of %v: %v, not %v", l, got, top)
		}
	}
}

func TestWorth(t *testing.T) {
	for i, c := range []struct {
		a, b api.Value
		want int
	}{
		{api.Value{}, api.Value{}, 0},
		// By Show, whatever Prio.
		{api.Value{Show: 4}, api.Value{Show: 3}, 1},
		{api.Value{Show: 4, Prio: -128}, api.Value{Show: 3, Prio: 127}, 1},
		{api.Value{Show: 1, Prio: 127, Since: 9}, api.Value{Show: 2, Prio: -128}, -1},
		{api.Value{Show: -1}, api.Value{Show: -2, Prio: 1}, 1},
		// By Prio where the Shows are the same.
		{api.Value{Show: 2, Prio: 5}, api.Value{Show: 2, Prio: 4, Since: 9}, 1},
		{api.Value{Show: 2, Prio: -5}, api.Value{Show: 2, Prio: -4}, -1},
		{api.Value{Show: 2, Prio: 0}, api.Value{Show: 2, Prio: -1}, 1},
		// Since and Status count for nothing.
		{api.Value{Show: 2, Prio: 5, Since: 9}, api.Value{Show: 2, Prio: 5, Since: 3}, 0},
		{api.Value{Show: 2, Prio: 5, Status: "a"}, api.Value{Show: 2, Prio: 5, Status: "b"}, 0},
		{api.Value{Show: 2, Prio: 5, Since: math.MaxInt}, api.Value{Show: 2, Prio: 5, Since: math.MinInt}, 0},
	} {
		if got := Worth(c.a, c.b); got != c.want {
			t.Errorf("P11.4: case %d: Worth: %d, not %d", i, got, c.want)
		}
		if got := Worth(c.b, c.a); got != -c.want {
			t.Errorf("P11.4: case %d, the other way round: Worth: %d, not %d", i, got, -c.want)
		}
	}
}

func TestWorthOfAllNumbers(t *testing.T) {
	order := func(i, j int) int {
		switch {
		case i > j:
			return 1
		case i < j:
			return -1
		}
		return 0
	}
	for i, m := range numbers {
		for j, n := range numbers {
			for _, p := range few {
				for _, q := range few {
					a, b := api.Value{Show: m, Prio: p, Since: q}, api.Value{Show: n, Prio: q, Since: p}
					want := order(i, j)
					if want == 0 {
						want = order(p, q)
					}
					if got := Worth(a, b); got != want {
						t.Fatalf("P11.4: Worth of %v and %v: %d, not %d", a, b, got, want)
					}
				}
				a, b := api.Value{Show: p, Prio: m}, api.Value{Show: p, Prio: n}
				if got := Worth(a, b); got != order(i, j) {
					t.Fatalf("P11.4: Worth of %v and %v: %d, not %d", a, b, got, order(i, j))
				}
			}
		}
	}
}

func TestValueHangsOnNoOrder(t *testing.T) {
	r := rand.New(rand.NewSource(3))
	for range 200 {
		var l []api.Session
		// Each of a Slot of its own, as the Ids differ.
		for id := range 1 + r.Intn(5) {
			l = append(l, some(id, r.Intn(4)+1, r.Intn(2), r.Intn(2), string(rune('a'+id))))
		}
		want, _ := Value(l)
		first, _ := Best(l)
		for _, m := range orders(l) {
			if got, ok := Value(m); got != want || !ok {
				t.Fatalf("P11.5: Value of %v: %v, not %v", m, got, want)
			}
			if got, ok := Best(m); got != first || !ok {
				t.Fatalf("P11.5: Best of %v: %v, not %v", m, got, first)
			}
		}
	}
}

func TestASessionMoreNeverShowsLess(t *testing.T) {
	r := rand.New(rand.NewSource(4))
	for range 5000 {
		var l []api.Session
		last := math.MinInt
		for n := range 12 {
			s := some(r.Intn(4), few[r.Intn(len(few))], r.Intn(5)-2, r.Intn(5)-2, "")
			l = slices.Insert(l, r.Intn(n+1), s)
			v, ok := Value(l)
			if v.Show < last || v.Show < s.Value.Show || !ok {
				t.Fatalf("P11.5: Value of %v, the last one more %v: %v", l, s, v)
			}
			last = v.Show
		}
	}
}

func TestNothingHandedInIsChanged(t *testing.T) {
	behind := some(9, 4, 99, 99, "behind")
	spare := make([]api.Session, 0, 9)
	spare = append(spare, some(2, 1, 1, 1, "a"), some(1, 4, 0, 1, "b"), some(0, 2, 1, 1, "c"), behind)[:3]
	kept := slices.Clone(spare[:4])
	for range 2 {
		first, _ := Best(spare)
		v, _ := Value(spare)
		if first != kept[2] || v != (api.Value{Show: 4, Prio: 1, Since: 1, Status: "c"}) {
			t.Errorf("R6: %v, %v", first, v)
		}
	}
	if !slices.Equal(spare[:4], kept) {
		t.Errorf("R5: what was handed in was changed: %v", spare[:4])
	}
}

func TestMuchIsDoneSoon(t *testing.T) {
	start := time.Now()
	var l []api.Session
	for n := range 1000000 {
		l = append(l, some(n, n%1000, n*7919%1000000, n, ""))
	}
	first, _ := Best(l)
	v, ok := Value(l)
	if first.Value.Prio != 999999 || v.Prio != 999999 || v.Show != 999 || !ok {
		t.Errorf("P11.3: of many: %v, %v", first, v)
	}
	if took := time.Since(start); took > 20*time.Second {
		t.Errorf("R1: many sessions took %v", took)
	}
}
