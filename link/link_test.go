package link

import (
	"math"
	"math/rand"
	"slices"
	"strings"
	"testing"
	"time"

	"rollcall/api"
	"rollcall/digest"
	"rollcall/frame"
	"rollcall/queue"
)

const (
	last = 1 << 40
	far  = math.MaxInt
)

var (
	here = api.Value{Show: api.Online, Since: 5}
	away = api.Value{Show: api.Away, Prio: -3, Since: 300, Status: "lunch"}
)

// good: a config that may be.
var good = api.Config{Room: 4, Burst: 5, Rate: 2, Period: 10}

// wrongTicks: numbers that are no ticks.
var wrongTicks = []int{-1, -2, last + 1, last + 2, 1 << 41, 1 << 62, -last, far, math.MinInt}

// rows: a view of two.
var rows = []api.Seen{{Contact: "ann", Value: here}, {Contact: "bob", Value: away}}

// on: that contact is seen at v.
func on(contact string, v api.Value) api.Change {
	return api.Change{Contact: contact, On: true, Value: v}
}

// off: that contact is seen no more.
func off(contact string) api.Change {
	return api.Change{Contact: contact}
}

// of: a queue of these changes.
func of(l ...api.Change) api.Queue {
	return api.Queue{List: l}
}

// latched: a queue of these changes that is Latched.
func latched(l ...api.Change) api.Queue {
	return api.Queue{List: l, Latched: true}
}

// many: a queue of so many changes, each of another Contact.
func many(count int) api.Queue {
	var q api.Queue
	for n := range count {
		q.List = append(q.List, on(string(rune('a'+n)), api.Value{Show: 1 + n%4, Since: n}))
	}
	return q
}

// delta: the frame of that number that tells c.
func delta(seq int, c api.Change) api.Frame {
	return api.Frame{Kind: api.Delta, Seq: seq, On: c.On, Contact: c.Contact, Value: c.Value}
}

// snapshot: the frame of that number that tells view.
func snapshot(seq int, view []api.Seen) api.Frame {
	return api.Frame{Kind: api.Snapshot, Seq: seq, Table: view}
}

// sum: the frame of that number that tells a digest of view.
func sum(seq int, view []api.Seen) api.Frame {
	return api.Frame{Kind: api.Digest, Seq: seq, Sum: digest.Sum(view)}
}

// still: a link of good that has nothing to tell at tick 7.
func still() api.Link {
	return api.Link{Seq: 3, Bucket: api.Bucket{Tokens: 5, At: 7}, Digest: 7}
}

// waiting: still, with these changes.
func waiting(l ...api.Change) api.Link {
	x := still()
	x.Queue = of(l...)
	return x
}

// table: so many rows, that may be a table.
func table(count int) []api.Seen {
	var t []api.Seen
	for n := range count {
		t = append(t, api.Seen{Contact: "a" + string(rune('a'+n/26)) + string(rune('a'+n%26)), Value: here})
	}
	return t
}

// wrongViews: such as may not be a table.
func wrongViews() [][]api.Seen {
	return [][]api.Seen{
		table(33), {{}}, {{Contact: "ann"}}, {{Contact: "A", Value: here}}, {{Value: here}},
		{rows[1], rows[0]}, {rows[0], rows[0]}, {rows[0], rows[1], rows[1]},
		{{Contact: "ann", Value: api.Value{Show: 5}}}, {{Contact: strings.Repeat("a", 17), Value: here}},
	}
}

// badConfigs: such as may not be, each by one field, or by all.
func badConfigs() []api.Config {
	l := []api.Config{{}, {Room: -1, Burst: -1, Rate: -1, Period: -1}}
	for _, wrong := range []int{0, -1, math.MinInt, far} {
		l = append(l,
			api.Config{Room: wrong, Burst: 5, Rate: 2, Period: 10}, api.Config{Room: 4, Burst: wrong, Rate: 2, Period: 10},
			api.Config{Room: 4, Burst: 5, Rate: wrong, Period: 10}, api.Config{Room: 4, Burst: 5, Rate: 2, Period: wrong})
	}
	return append(l,
		api.Config{Room: 17, Burst: 5, Rate: 2, Period: 10}, api.Config{Room: 4, Burst: 65, Rate: 2, Period: 10},
		api.Config{Room: 4, Burst: 5, Rate: 17, Period: 10}, api.Config{Room: 4, Burst: 5, Rate: 2, Period: 1001})
}

// same: whether a and b are, nil or not where there is no change.
func same(a, b api.Link) bool {
	x, y := a, b
	x.Queue.List, y.Queue.List = nil, nil
	return slices.Equal(a.Queue.List, b.Queue.List) &&
		x.Seq == y.Seq && x.Queue.Latched == y.Queue.Latched && x.Bucket == y.Bucket && x.Snap == y.Snap && x.Digest == y.Digest
}

// copied: l with changes in memory of their own.
func copied(l api.Link) api.Link {
	l.Queue.List = slices.Clone(l.Queue.List)
	return l
}

// sameFrames: whether a and b are, one by one.
func sameFrames(a, b []api.Frame) bool {
	return slices.EqualFunc(a, b, frame.Same)
}

// tells: that l emits these frames of view at now, and is so behind them.
func tells(t *testing.T, c api.Config, l api.Link, view []api.Seen, now int, after api.Link, frames ...api.Frame) {
	t.Helper()
	got, told := Emit(c, l, view, now)
	if !sameFrames(told, frames) {
		t.Errorf("P18.3: Emit of %v, %v at %d: %v, not %v", c, l, now, told, frames)
	}
	if !same(got, after) {
		t.Errorf("P18.3: Emit of %v, %v at %d: then %v, not %v", c, l, now, got, after)
	}
}

func TestNew(t *testing.T) {
	for _, c := range []api.Config{good, {Room: 1, Burst: 1, Rate: 1, Period: 1}, {Room: 16, Burst: 64, Rate: 16, Period: 1000}} {
		for _, now := range []int{0, 1, 5, 1 << 32, last - 1, last} {
			want := api.Link{Bucket: api.Bucket{Tokens: c.Burst, At: now}, Snap: true, Digest: now}
			got, err := New(c, now)
			if !same(got, want) || err != api.OK {
				t.Errorf("P18.1: New of %v at %d: %v, %d", c, now, got, err)
			}
			if !May(c, got) || Quiet(got) {
				t.Errorf("P18.1: %v of %v: %v, %v", got, c, May(c, got), Quiet(got))
			}
		}
		for _, now := range wrongTicks {
			if got, err := New(c, now); !same(got, api.Link{}) || err != api.ErrArg {
				t.Errorf("P18.1: New of %v at %d: %v, %d", c, now, got, err)
			}
		}
	}
	for _, c := range badConfigs() {
		for _, now := range append(wrongTicks, 0, 5, last) {
			if got, err := New(c, now); !same(got, api.Link{}) || err != api.ErrArg {
				t.Errorf("P18.1: New of %v at %d: %v, %d", c, now, got, err)
			}
		}
	}
}

// may: that l may be one of good, or may not.
func may(t *testing.T, l api.Link, want bool, because string) {
	t.Helper()
	if got := May(good, l); got != want {
		t.Errorf("P18.1: May of %v: %v: %s", l, got, because)
	}
}

func TestMayOfEachNumber(t *testing.T) {
	for _, n := range []int{0, 1, 5, last - 1, last} {
		l := still()
		l.Seq = n
		may(t, l, true, "Seq")
		l = still()
		l.Bucket.At = n
		may(t, l, true, "At")
		l = still()
		l.Digest = n
		may(t, l, true, "Digest")
	}
	for _, n := range wrongTicks {
		l := still()
		l.Seq = n
		may(t, l, false, "Seq")
		l = still()
		l.Bucket.At = n
		may(t, l, false, "At")
		l = still()
		l.Digest = n
		may(t, l, false, "Digest")
	}
	for _, n := range []int{math.MinInt, -2, -1, 0, 1, 4, 5, 6, 7, 64, far} {
		l := still()
		l.Bucket.Tokens = n
		may(t, l, n >= 0 && n <= 5, "Tokens")
		l.Snap = true
		may(t, l, n >= 0 && n <= 5, "Tokens, and Snap")
	}
}

func TestMayOfQueues(t *testing.T) {
	for i, x := range []struct {
		q    api.Queue
		want bool
	}{
		{api.Queue{}, true}, {of(off("a")), true}, {of(on("b", here), off("a")), true}, {many(3), true}, {many(4), true},
		{many(5), false}, {many(16), false}, {latched(), false}, {latched(off("a")), false},
		{of(off("a"), on("a", here)), false}, {of(off("A")), false}, {of(api.Change{}), false}, {of(on("a", api.Value{})), false},
		{of(api.Change{Contact: "a", Value: here}), false}, {of(off("a"), off("b"), off("a")), false},
	} {
		l := still()
		l.Queue = x.q
		if got := May(good, l); got != x.want {
			t.Errorf("P18.1: case %d: of the queue %v: %v", i, x.q, got)
		}
		l.Snap = true
		if got := May(good, l); got != (x.want && len(x.q.List) == 0) {
			t.Errorf("P18.1: case %d: of the queue %v, and Snap: %v", i, x.q, got)
		}
	}
	for room := 1; room <= 16; room++ {
		for count := range 20 {
			l := api.Link{Queue: many(count)}
			if got := May(api.Config{Room: room, Burst: 1, Rate: 1, Period: 1}, l); got != (count <= room) {
				t.Errorf("P18.1: %d changes of room %d: %v", count, room, got)
			}
		}
	}
}

func TestMayOfConfigs(t *testing.T) {
	for _, c := range badConfigs() {
		for _, l := range []api.Link{{}, {Snap: true}, {Bucket: api.Bucket{Tokens: 1}}, still()} {
			if May(c, l) {
				t.Errorf("P18.1: %v may be one of %v", l, c)
			}
		}
	}
	for _, burst := range []int{1, 2, 63, 64} {
		for tokens := -1; tokens < 67; tokens++ {
			l := api.Link{Bucket: api.Bucket{Tokens: tokens}}
			if got := May(api.Config{Room: 1, Burst: burst, Rate: 1, Period: 1}, l); got != (tokens >= 0 && tokens <= burst) {
				t.Errorf("P18.1: %d tokens of %d: %v", tokens, burst, got)
			}
		}
	}
	// How fast tokens come, and how often a digest, says nothing of a link.
	for _, rate := range []int{1, 16} {
		for _, period := range []int{1, 1000} {
			if !May(api.Config{Room: 4, Burst: 5, Rate: rate, Period: period}, waiting(off("a"))) {
				t.Errorf("P18.1: a link may not be one of rate %d and period %d", rate, period)
			}
		}
	}
}

func TestQuiet(t *testing.T) {
	for i, x := range []struct {
		l    api.Link
		want bool
	}{
		{api.Link{}, true}, {still(), true}, {api.Link{Queue: api.Queue{List: []api.Change{}}}, true},
		{api.Link{Seq: -1, Bucket: api.Bucket{Tokens: -1, At: -1}, Digest: -1}, true},
		{api.Link{Snap: true}, false}, {waiting(off("a")), false}, {waiting(on("a", here), off("b")), false},
		{api.Link{Queue: latched()}, false}, {api.Link{Queue: latched(off("a"))}, false},
		{api.Link{Queue: of(off("a")), Snap: true}, false}, {api.Link{Queue: latched(), Snap: true}, false},
		{api.Link{Queue: of(api.Change{})}, false},
	} {
		if got := Quiet(x.l); got != x.want {
			t.Errorf("P18.1: case %d: Quiet of %v: %v", i, x.l, got)
		}
	}
}

func TestPush(t *testing.T) {
	asked := still()
	asked.Snap = true
	for i, x := range []struct {
		l    api.Link
		c    api.Change
		want api.Link
	}{
		{still(), off("a"), waiting(off("a"))},
		{still(), on("a", here), waiting(on("a", here))},
		{waiting(off("b")), on("a", here), waiting(off("b"), on("a", here))},
		{waiting(off("b"), off("a")), on("b", here), waiting(on("b", here), off("a"))},
		{waiting(off("a"), off("b"), off("c")), off("d"), waiting(off("a"), off("b"), off("c"), off("d"))},
		{waiting(off("a"), off("b"), off("c"), off("d")), on("d", away), waiting(off("a"), off("b"), off("c"), on("d", away))},
		{waiting(off("a"), off("b"), off("c"), off("d")), on("a", away), waiting(on("a", away), off("b"), off("c"), off("d"))},
		// No room is left: all waits.
		{waiting(off("a"), off("b"), off("c"), off("d")), off("e"), asked},
		{waiting(off("a"), off("b"), off("c"), off("d"), off("f")), off("e"), asked},
		// Of what is Snap already nothing more waits.
		{asked, off("a"), asked},
		{asked, on("a", here), asked},
		{api.Link{Queue: of(off("a")), Snap: true}, on("a", here), api.Link{Queue: of(off("a")), Snap: true}},
		{api.Link{Queue: latched(off("a")), Snap: true}, on("a", here), api.Link{Queue: latched(off("a")), Snap: true}},
		// What was Latched is as asked, whatever is pushed.
		{api.Link{Seq: 9, Queue: latched()}, off("a"), api.Link{Seq: 9, Snap: true}},
		{api.Link{Seq: 9, Queue: latched(off("a"))}, off("a"), api.Link{Seq: 9, Snap: true}},
		// Links and changes that may not be.
		{api.Link{Seq: -1, Bucket: api.Bucket{Tokens: -5, At: -1}, Digest: -7}, off("a"), api.Link{Seq: -1, Bucket: api.Bucket{Tokens: -5, At: -1}, Digest: -7, Queue: of(off("a"))}},
		{still(), api.Change{}, waiting(api.Change{})},
		{waiting(off("A"), off("A")), on("A", here), waiting(on("A", here), off("A"))},
	} {
		if got := Push(good, x.l, x.c); !same(got, x.want) {
			t.Errorf("P18.2: case %d: Push of %v into %v: %v, not %v", i, x.c, x.l, got, x.want)
		}
	}
}

// TestPushOfEachRoom: as many changes as there is room for, and one more; of configs that may not be too.
func TestPushOfEachRoom(t *testing.T) {
	for room := -1; room <= 20; room++ {
		for _, c := range []api.Config{{Room: room, Burst: 1, Rate: 1, Period: 1}, {Room: room}} {
			l := api.Link{Seq: 5, Digest: 6}
			for n, x := range many(max(room, 0)).List {
				l = Push(c, l, x)
				if !same(l, api.Link{Seq: 5, Digest: 6, Queue: many(n + 1)}) {
					t.Fatalf("P18.2: %d pushed of %v: %v", n+1, c, l)
				}
			}
			for range 2 {
				if l = Push(c, l, off("zz")); !same(l, api.Link{Seq: 5, Digest: 6, Snap: true}) {
					t.Errorf("P18.2: one more than the room pushed of %v: %v", c, l)
				}
			}
		}
	}
}

func TestAsk(t *testing.T) {
	for i, l := range []api.Link{
		{}, {Snap: true}, still(), waiting(off("a")), {Queue: many(16)}, {Queue: latched()}, {Queue: latched(off("a")), Snap: true},
		{Seq: last, Bucket: api.Bucket{Tokens: 64, At: last}, Digest: last}, {Seq: -1, Bucket: api.Bucket{Tokens: -1, At: -1}, Digest: -1},
		{Queue: of(api.Change{}, api.Change{})},
	} {
		want := api.Link{Seq: l.Seq, Bucket: l.Bucket, Snap: true, Digest: l.Digest}
		got := Ask(l)
		if !same(got, want) {
			t.Errorf("P18.2: case %d: Ask of %v: %v", i, l, got)
		}
		if !same(Ask(got), want) {
			t.Errorf("P18.2: case %d: Ask of %v again: %v", i, l, Ask(got))
		}
	}
}

// TestExample: as the chapter tells.
func TestExample(t *testing.T) {
	l, err := New(good, 7)
	if err != api.OK {
		t.Fatal(err)
	}
	tells(t, good, l, nil, 7, api.Link{Seq: 1, Bucket: api.Bucket{Tokens: 4, At: 7}, Digest: 7}, snapshot(0, nil))
}

func TestEmitOfWhatMayNotBe(t *testing.T) {
	links := []api.Link{{Snap: true}, {Snap: true, Bucket: api.Bucket{Tokens: 1}}, waiting(off("a"))}
	for _, now := range wrongTicks {
		for _, l := range links {
			tells(t, good, l, rows, now, l)
		}
	}
	for _, view := range wrongViews() {
		for _, l := range links {
			for _, now := range []int{0, 7, 500, last} {
				tells(t, good, l, view, now, l)
			}
		}
	}
	for _, c := range badConfigs() {
		for _, l := range links {
			tells(t, c, l, rows, 500, l)
		}
	}
	for _, now := range []int{0, 7, 500, last} {
		for _, l := range []api.Link{
			{Seq: -1, Snap: true, Bucket: api.Bucket{Tokens: 1}},
			{Seq: last + 1, Snap: true, Bucket: api.Bucket{Tokens: 1}},
			{Snap: true, Bucket: api.Bucket{Tokens: -1}},
			{Snap: true, Bucket: api.Bucket{Tokens: 6}},
			{Snap: true, Bucket: api.Bucket{Tokens: 1, At: -1}},
			{Snap: true, Bucket: api.Bucket{Tokens: 1, At: last + 1}},
			{Snap: true, Bucket: api.Bucket{Tokens: 1}, Digest: -1},
			{Snap: true, Bucket: api.Bucket{Tokens: 1}, Digest: last + 1},
			{Snap: true, Bucket: api.Bucket{Tokens: 1}, Queue: of(off("a"))},
			{Snap: true, Bucket: api.Bucket{Tokens: 1}, Queue: latched()},
			{Bucket: api.Bucket{Tokens: 1}, Queue: latched()},
			{Bucket: api.Bucket{Tokens: 5}, Queue: many(5)},
			{Bucket: api.Bucket{Tokens: 5}, Queue: of(off("a"), off("a"))},
			{Bucket: api.Bucket{Tokens: 5}, Queue: of(off("A"))},
		} {
			tells(t, good, l, rows, now, l)
		}
	}
}

// TestEmitAtTheEndsOfTicks: at the first tick, and at the last.
func TestEmitAtTheEndsOfTicks(t *testing.T) {
	for _, now := range []int{0, last} {
		l := api.Link{Snap: true, Bucket: api.Bucket{Tokens: 2, At: now}, Digest: now}
		tells(t, good, l, rows, now, api.Link{Seq: 1, Bucket: api.Bucket{Tokens: 1, At: now}, Digest: now}, snapshot(0, rows))
	}
	l := api.Link{Seq: 8}
	tells(t, good, l, rows, last, api.Link{Seq: 9, Bucket: api.Bucket{Tokens: 4, At: last}, Digest: last}, sum(8, rows))
	l = api.Link{Seq: 8, Bucket: api.Bucket{Tokens: 2, At: last}, Digest: last}
	tells(t, good, l, rows, 0, l)
}

func TestEmitOfSnapshots(t *testing.T) {
	for _, view := range [][]api.Seen{nil, rows, table(1), table(31), table(32)} {
		l := still()
		l.Snap = true
		tells(t, good, l, view, 7, api.Link{Seq: 4, Bucket: api.Bucket{Tokens: 4, At: 7}, Digest: 7}, snapshot(3, view))
		// A Snapshot tells the view, so that no Digest is told behind it, however long ago the last one was.
		tells(t, good, l, view, 1000, api.Link{Seq: 4, Bucket: api.Bucket{Tokens: 4, At: 1000}, Digest: 1000}, snapshot(3, view))
		l.Digest = 900
		tells(t, good, l, view, 8, api.Link{Seq: 4, Bucket: api.Bucket{Tokens: 4, At: 8}, Digest: 8}, snapshot(3, view))
	}
}

func TestEmitOfDeltas(t *testing.T) {
	a, b, c, d := on("zz", away), off("ann"), on("bob", here), off("b")
	tells(t, good, waiting(a), rows, 7, api.Link{Seq: 4, Bucket: api.Bucket{Tokens: 4, At: 7}, Digest: 7}, delta(3, a))
	// In the queue's order, whatever the view has.
	behind := api.Link{Seq: 7, Bucket: api.Bucket{Tokens: 1, At: 7}, Digest: 7}
	tells(t, good, waiting(a, b, c, d), rows, 7, behind, delta(3, a), delta(4, b), delta(5, c), delta(6, d))
	tells(t, good, waiting(d, c, b, a), nil, 7, behind, delta(3, d), delta(4, c), delta(5, b), delta(6, a))
}

func TestEmitOfDigests(t *testing.T) {
	for i, x := range []struct {
		digest, now int
		told        bool
	}{
		{7, 7, false}, {7, 8, false}, {7, 16, false}, {7, 17, true}, {7, 18, true}, {7, 27, true}, {7, last, true},
		{8, 7, false}, {17, 7, false}, {18, 7, false}, {last, 7, false}, {last, 0, false}, {0, 9, false}, {0, 10, true}, {0, 11, true},
		{last - 10, last, true}, {last - 9, last, false},
	} {
		l := still()
		l.Digest = x.digest
		want := l
		var frames []api.Frame
		if x.told {
			want.Seq, want.Digest = 4, x.now
			want.Bucket = api.Bucket{Tokens: 4, At: x.now}
			frames = append(frames, sum(3, rows))
		}
		got, told := Emit(good, l, rows, x.now)
		if !same(got, want) || !sameFrames(told, frames) {
			t.Errorf("P18.3: case %d: %v, %v", i, got, told)
		}
	}
	for _, period := range []int{1, 2, 999, 1000} {
		c := api.Config{Room: 4, Burst: 5, Rate: 2, Period: period}
		for _, gone := range []int{period - 1, period, period + 1} {
			if _, told := Emit(c, still(), rows, 7+gone); (len(told) == 1) != (gone >= period) {
				t.Errorf("P18.3: %d ticks behind, of the period %d: %v", gone, period, told)
			}
		}
	}
	// Of each view its own.
	for _, view := range [][]api.Seen{nil, rows, table(32)} {
		if _, told := Emit(good, still(), view, 20); !sameFrames(told, []api.Frame{sum(3, view)}) {
			t.Errorf("P18.3: a Digest of %v: %v", view, told)
		}
	}
}

// TestEmitOfDeltasAndDigest: a Digest comes behind all changes, if there is a token yet.
func TestEmitOfDeltasAndDigest(t *testing.T) {
	a, b, c, d := off("a"), on("b", here), off("c"), on("d", away)
	tells(t, good, waiting(a, b), rows, 17, api.Link{Seq: 6, Bucket: api.Bucket{Tokens: 2, At: 17}, Digest: 17}, delta(3, a), delta(4, b), sum(5, rows))
	tells(t, good, waiting(a, b), rows, 16, api.Link{Seq: 5, Bucket: api.Bucket{Tokens: 3, At: 16}, Digest: 7}, delta(3, a), delta(4, b))
	four := api.Config{Room: 4, Burst: 4, Rate: 2, Period: 10}
	l := waiting(a, b, c, d)
	l.Bucket.Tokens = 4
	tells(t, four, l, rows, 17, api.Link{Seq: 7, Bucket: api.Bucket{At: 17}, Digest: 7}, delta(3, a), delta(4, b), delta(5, c), delta(6, d))
	tells(t, good, waiting(a, b, c, d), rows, 17, api.Link{Seq: 8, Bucket: api.Bucket{At: 17}, Digest: 17}, delta(3, a), delta(4, b), delta(5, c), delta(6, d), sum(7, rows))
}

// TestEmitWithFewTokens: they run out ahead of what is to be told.
func TestEmitWithFewTokens(t *testing.T) {
	a, b, c, d := off("a"), on("b", here), off("c"), on("d", away)
	l := waiting(a, b, c, d)
	l.Bucket.Tokens = 0
	tells(t, good, l, rows, 7, l)
	tells(t, good, l, rows, 0, l)
	tells(t, good, l, rows, 8, api.Link{Seq: 5, Queue: of(c, d), Bucket: api.Bucket{At: 8}, Digest: 7}, delta(3, a), delta(4, b))
	tells(t, good, l, rows, 9, api.Link{Seq: 7, Bucket: api.Bucket{At: 9}, Digest: 7}, delta(3, a), delta(4, b), delta(5, c), delta(6, d))
	l.Bucket.Tokens = 1
	tells(t, good, l, rows, 7, api.Link{Seq: 4, Queue: of(b, c, d), Bucket: api.Bucket{At: 7}, Digest: 7}, delta(3, a))
	// At a tick that goes back no tokens come, but those that are there may be taken.
	tells(t, good, l, rows, 6, api.Link{Seq: 4, Queue: of(b, c, d), Bucket: api.Bucket{At: 7}, Digest: 7}, delta(3, a))
	tells(t, good, l, rows, 8, api.Link{Seq: 6, Queue: of(d), Bucket: api.Bucket{At: 8}, Digest: 7}, delta(3, a), delta(4, b), delta(5, c))
	// A Snapshot, and a Digest, wait for a token too.
	snap := api.Link{Seq: 3, Bucket: api.Bucket{At: 7}, Snap: true}
	tells(t, good, snap, rows, 7, snap)
	tells(t, good, snap, rows, 8, api.Link{Seq: 4, Bucket: api.Bucket{Tokens: 1, At: 8}, Digest: 8}, snapshot(3, rows))
	due := api.Link{Seq: 3, Bucket: api.Bucket{At: 50}, Digest: 7}
	tells(t, good, due, rows, 50, due)
	tells(t, good, due, rows, 51, api.Link{Seq: 4, Bucket: api.Bucket{Tokens: 1, At: 51}, Digest: 51}, sum(3, rows))
}

// TestEmitOfNothing: no token is taken, and Bucket stays at its own tick.
func TestEmitOfNothing(t *testing.T) {
	for tokens := range 6 {
		for _, now := range []int{0, 6, 7, 8, 16} {
			l := still()
			l.Bucket.Tokens = tokens
			tells(t, good, l, rows, now, l)
			l.Bucket.At = last
			tells(t, good, l, rows, now, l)
		}
	}
}

func TestEmitAtTheLastNumbers(t *testing.T) {
	a, b := off("a"), on("b", here)
	l := waiting(a, b)
	l.Seq = last
	tells(t, good, l, rows, 7, l)
	tells(t, good, l, rows, 50, l)
	l.Seq = last - 1
	tells(t, good, l, rows, 50, api.Link{Seq: last, Queue: of(b), Bucket: api.Bucket{Tokens: 4, At: 50}, Digest: 7}, delta(last-1, a))
	l.Seq = last - 2
	tells(t, good, l, rows, 50, api.Link{Seq: last, Bucket: api.Bucket{Tokens: 3, At: 50}, Digest: 7}, delta(last-2, a), delta(last-1, b))
	for _, x := range []api.Link{{Seq: last, Snap: true, Bucket: api.Bucket{Tokens: 5}}, {Seq: last, Bucket: api.Bucket{Tokens: 5}}} {
		tells(t, good, x, rows, 100, x)
		x.Seq--
		got, told := Emit(good, x, rows, 100)
		if len(told) != 1 || told[0].Seq != last-1 || got.Seq != last || !May(good, got) {
			t.Errorf("P18.3: %v tells %v, and then %v", x, told, got)
		}
	}
}

// TestEmitTwice: at one tick, what was told is not told again, and tokens go on.
func TestEmitTwice(t *testing.T) {
	a, b, c := off("a"), on("b", here), off("c")
	l := waiting(a)
	l, _ = Emit(good, l, rows, 7)
	tells(t, good, l, rows, 7, l)
	l = Push(good, Push(good, l, b), c)
	tells(t, good, l, rows, 7, api.Link{Seq: 6, Bucket: api.Bucket{Tokens: 2, At: 7}, Digest: 7}, delta(4, b), delta(5, c))
	l = Ask(l)
	tells(t, good, l, rows, 7, api.Link{Seq: 5, Bucket: api.Bucket{Tokens: 3, At: 7}, Digest: 7}, snapshot(4, rows))
	l = api.Link{Bucket: api.Bucket{Tokens: 5, At: 50}}
	l, _ = Emit(good, l, rows, 50)
	tells(t, good, l, rows, 50, l)
	tells(t, good, l, rows, 59, l)
	tells(t, good, l, rows, 60, api.Link{Seq: 2, Bucket: api.Bucket{Tokens: 4, At: 60}, Digest: 60}, sum(1, rows))
	// All tokens of one tick, in several calls, are no more than in one.
	l = still()
	count := 0
	for range 20 {
		var told []api.Frame
		l, told = Emit(good, Ask(l), rows, 7)
		count += len(told)
	}
	if count != good.Burst {
		t.Errorf("P18.4: %d frames at one tick", count)
	}
}

// emitted: P18.3 word by word, with tokens that are reckoned by themselves.
func emitted(c api.Config, l api.Link, view []api.Seen, now int) (api.Link, []api.Frame) {
	var frames []api.Frame
	tokens, at := l.Bucket.Tokens, l.Bucket.At
	for ; at < now; at++ {
		tokens = min(tokens+c.Rate, c.Burst)
	}
	for tokens > 0 && l.Seq < last {
		switch {
		case l.Snap:
			frames = append(frames, snapshot(l.Seq, view))
			l.Snap, l.Queue, l.Digest = false, api.Queue{}, now
		case len(l.Queue.List) > 0:
			frames = append(frames, delta(l.Seq, l.Queue.List[0]))
			l.Queue = of(l.Queue.List[1:]...)
		case now-l.Digest >= c.Period:
			frames = append(frames, sum(l.Seq, view))
			l.Digest = now
		default:
			return l, frames
		}
		tokens--
		l.Seq++
		l.Bucket = api.Bucket{Tokens: tokens, At: at}
	}
	return l, frames
}

// randomConfig: one that may be, of small numbers.
func randomConfig(r *rand.Rand) api.Config {
	return api.Config{Room: 1 + r.Intn(6), Burst: 1 + r.Intn(6), Rate: 1 + r.Intn(4), Period: 1 + r.Intn(12)}
}

// randomView: one that may be a table, of few Contacts.
func randomView(r *rand.Rand) []api.Seen {
	var view []api.Seen
	for n := range 9 {
		if r.Intn(2) == 0 {
			view = append(view, api.Seen{Contact: string(rune('a' + n)), Value: api.Value{Show: 1 + r.Intn(4), Since: r.Intn(3)}})
		}
	}
	return view
}

// TestEmitAgainstOracle: of any links that may be.
func TestEmitAgainstOracle(t *testing.T) {
	r := rand.New(rand.NewSource(7))
	for range 20000 {
		c, view := randomConfig(r), randomView(r)
		l := api.Link{Seq: r.Intn(50), Bucket: api.Bucket{Tokens: r.Intn(c.Burst + 1), At: r.Intn(40)}, Snap: r.Intn(4) == 0, Digest: r.Intn(40)}
		if r.Intn(5) == 0 {
			l.Seq = last - r.Intn(4)
		}
		if !l.Snap {
			l.Queue = many(r.Intn(c.Room + 1))
		}
		now := r.Intn(50)
		if !May(c, l) {
			t.Fatalf("P18.1: %v may not be one of %v", l, c)
		}
		got, told := Emit(c, l, view, now)
		want, frames := emitted(c, l, view, now)
		if !same(got, want) || !sameFrames(told, frames) {
			t.Fatalf("P18.3: Emit of %v, %v at %d: %v, %v; not %v, %v", c, l, now, got, told, want, frames)
		}
	}
}

// fed: what a watcher has behind these frames, and whether all of them are right.
func fed(has []api.Seen, told []api.Frame, seq int, view []api.Seen) ([]api.Seen, bool) {
	for i, f := range told {
		if f.Seq != seq+i || !frame.May(f) {
			return has, false
		}
		switch f.Kind {
		case api.Snapshot:
			has = f.Table
		case api.Delta:
			has = digest.Set(has, api.Change{Contact: f.Contact, On: f.On, Value: f.Value})
		default:
			if f.Sum != digest.Sum(has) || !slices.Equal(has, view) {
				return has, false
			}
		}
	}
	return has, true
}

// TestWhoeverTakesAllHasAll: but for what waits, as views change, and as ticks go on and back.
func TestWhoeverTakesAllHasAll(t *testing.T) {
	r := rand.New(rand.NewSource(8))
	for range 300 {
		c, now := randomConfig(r), r.Intn(20)
		start := now
		l, err := New(c, now)
		if err != api.OK {
			t.Fatal(err)
		}
		var has, view []api.Seen
		count := 0
		for range 80 {
			switch r.Intn(6) {
			case 0, 1:
				next := view
				for range r.Intn(5) {
					next = digest.Set(next, api.Change{Contact: string(rune('a' + r.Intn(9))), On: r.Intn(3) > 0, Value: api.Value{Show: 1 + r.Intn(4)}})
				}
				for _, x := range digest.Changes(view, next) {
					l = Push(c, l, x)
				}
				view = next
			case 2:
				now += r.Intn(4)
			case 3:
				if r.Intn(8) == 0 {
					l = Ask(l)
				}
			default:
				seq := l.Seq
				at := max(0, now-r.Intn(2))
				after, told := Emit(c, l, view, at)
				table, ok := fed(has, told, seq, view)
				if !ok || after.Seq != seq+len(told) {
					t.Fatalf("P18.4: %v, %v tells %v, and has %v", c, l, told, has)
				}
				l, has = after, table
				count += len(told)
			}
			if !May(c, l) {
				t.Fatalf("P18.4: %v may not be one of %v", l, c)
			}
			if !l.Snap && !slices.Equal(queue.Over(has, l.Queue), view) {
				t.Fatalf("P18.4: %v with %v is not %v", has, l.Queue, view)
			}
			if count > c.Burst+c.Rate*(now-start) {
				t.Fatalf("P18.4: %d frames of %v in %d ticks", count, c, now-start)
			}
		}
	}
}

// TestArgumentsStay: what was handed in is as it was, and what stands in spare memory behind it.
func TestArgumentsStay(t *testing.T) {
	spare := on("spare", away)
	for count := range 5 {
		all := append(slices.Clone(many(count).List), slices.Repeat([]api.Change{spare}, 6)...)
		view := append(slices.Clone(rows), api.Seen{Contact: "spare"})
		l := waiting(all[:count]...)
		var kept []api.Link
		for _, x := range []api.Link{Push(good, l, off("a")), Push(good, l, on("z", here)), Ask(l)} {
			kept = append(kept, x, copied(x))
			Push(good, x, off("y"))
			Push(good, x, off("a"))
			Emit(good, x, view[:2], 50)
		}
		after, told := Emit(good, l, view[:2], 50)
		was, sent := copied(after), slices.Clone(told)
		Push(good, after, off("x"))
		Emit(good, Ask(after), view[:2], 51)
		Emit(good, Ask(l), view[:2], 50)
		if !slices.Equal(all[:count], many(count).List) || !slices.Equal(all[count:], slices.Repeat([]api.Change{spare}, 6)) {
			t.Errorf("R5: the queue is %v now", all)
		}
		if !slices.Equal(view, append(slices.Clone(rows), api.Seen{Contact: "spare"})) {
			t.Errorf("R5: the view is %v now", view)
		}
		for i := 0; i < len(kept); i += 2 {
			if !same(kept[i], kept[i+1]) {
				t.Errorf("R5: what was answered, %v, is %v now", kept[i+1], kept[i])
			}
		}
		if !same(after, was) || !sameFrames(told, sent) {
			t.Errorf("R5: what was answered, %v, is %v, %v now", was, after, told)
		}
	}
}

// TestASnapshotIsItsOwn: what is written into its table is not seen in the view.
func TestASnapshotIsItsOwn(t *testing.T) {
	view := slices.Clone(rows)
	_, told := Emit(good, api.Link{Snap: true, Bucket: api.Bucket{Tokens: 1}}, view, 0)
	if len(told) != 1 || len(told[0].Table) != 2 {
		t.Fatalf("P18.3: %v", told)
	}
	told[0].Table[0].Contact = "zz"
	if !slices.Equal(view, rows) {
		t.Errorf("R5: the view is %v now", view)
	}
}

// TestAnswersHangOnArgumentsAlone: in whatever order they are asked.
func TestAnswersHangOnArgumentsAlone(t *testing.T) {
	a := off("a")
	for range 3 {
		tells(t, good, waiting(a), rows, 17, api.Link{Seq: 5, Bucket: api.Bucket{Tokens: 3, At: 17}, Digest: 17}, delta(3, a), sum(4, rows))
		tells(t, good, still(), rows, 7, still())
		tells(t, good, Ask(still()), nil, 7, api.Link{Seq: 4, Bucket: api.Bucket{Tokens: 4, At: 7}, Digest: 7}, snapshot(3, nil))
		if !Quiet(still()) || Quiet(waiting(a)) || !May(good, waiting(a)) {
			t.Error("R6: May and Quiet")
		}
	}
}

func TestMuchIsDoneSoon(t *testing.T) {
	start := time.Now()
	c := api.Config{Room: 16, Burst: 64, Rate: 16, Period: 1}
	l, err := New(c, 0)
	if err != api.OK {
		t.Fatal(err)
	}
	view := table(32)
	count := 0
	for now := range 5000 {
		for _, x := range many(15).List {
			l = Push(c, l, x)
		}
		var told []api.Frame
		l, told = Emit(c, l, view, now)
		count += len(told)
	}
	// At the first tick the Snapshot alone, then each time 15 changes and a Digest.
	if count != 1+4999*16 || l.Seq != count {
		t.Errorf("P18.3: %d frames", count)
	}
	// A tick that is as far away as may be, and many changes of a config that may not be.
	Emit(c, l, view, last)
	far := api.Config{Room: 3000}
	x := api.Link{}
	for n := range 3000 {
		x = Push(far, x, api.Change{Contact: strings.Repeat("a", n)})
	}
	if len(x.Queue.List) != 3000 {
		t.Errorf("P18.2: %d changes", len(x.Queue.List))
	}
	if took := time.Since(start); took > 20*time.Second {
		t.Errorf("R1: many frames took %v", took)
	}
}
