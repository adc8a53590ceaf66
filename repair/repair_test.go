package repair

import (
	"math"
	"math/rand"
	"slices"
	"strings"
	"testing"
	"time"

	"rollcall/api"
	"rollcall/client"
	"rollcall/crc"
	"rollcall/digest"
	"rollcall/frame"
	"rollcall/link"
)

const (
	last = 1 << 40
	far  = math.MaxInt
)

var (
	here = api.Value{Show: api.Online, Since: 5}
	away = api.Value{Show: api.Away, Prio: -3, Since: 300, Status: "lunch"}
)

// good: a config that may be.
var good = api.Config{Room: 4, Burst: 5, Rate: 2, Period: 10}

// rows: a view of two.
var rows = []api.Seen{{Contact: "ann", Value: here}, {Contact: "bob", Value: away}}

// other: a view of one, none of the two.
var other = []api.Seen{{Contact: "cid", Value: away}}

// wrongTicks: numbers that are no ticks.
var wrongTicks = []int{-1, -2, last + 1, last + 2, 1 << 41, 1 << 62, -last, far, math.MinInt}

// on: that contact is seen at v.
func on(contact string, v api.Value) api.Change {
	return api.Change{Contact: contact, On: true, Value: v}
}

// off: that contact is seen no more.
func off(contact string) api.Change {
	return api.Change{Contact: contact}
}

// of: a queue of these changes.
func of(l ...api.Change) api.Queue {
	return api.Queue{List: l}
}

// still: a side of good that has rows, and nothing to tell at tick 7.
func still() Side {
	return Side{
		Link:   api.Link{Seq: 3, Bucket: api.Bucket{Tokens: 5, At: 7}, Digest: 7},
		Client: api.Client{Table: rows, Next: 3},
	}
}

// waiting: still, with these changes.
func waiting(l ...api.Change) Side {
	x := still()
	x.Link.Queue = of(l...)
	return x
}

// asked: still, of which the client is Out, and the link is to tell all.
func asked() Side {
	x := still()
	x.Link.Snap, x.Client.Out = true, true
	return x
}

// badConfigs: such as may not be, each by one field, or by all.
func badConfigs() []api.Config {
	l := []api.Config{{}, {Room: -1, Burst: -1, Rate: -1, Period: -1}}
	for _, wrong := range []int{0, -1, math.MinInt, far} {
		l = append(l,
			api.Config{Room: wrong, Burst: 5, Rate: 2, Period: 10}, api.Config{Room: 4, Burst: wrong, Rate: 2, Period: 10},
			api.Config{Room: 4, Burst: 5, Rate: wrong, Period: 10}, api.Config{Room: 4, Burst: 5, Rate: 2, Period: wrong})
	}
	return append(l,
		api.Config{Room: 17, Burst: 5, Rate: 2, Period: 10}, api.Config{Room: 4, Burst: 65, Rate: 2, Period: 10},
		api.Config{Room: 4, Burst: 5, Rate: 17, Period: 10}, api.Config{Room: 4, Burst: 5, Rate: 2, Period: 1001})
}

// table: so many rows, that may be a table if they are not above 32.
func table(count int) []api.Seen {
	var t []api.Seen
	for n := range count {
		t = append(t, api.Seen{Contact: "a" + string(rune('a'+n/26)) + string(rune('a'+n%26)), Value: here})
	}
	return t
}

// wrongViews: such as may not be a table.
func wrongViews() [][]api.Seen {
	return [][]api.Seen{
		table(33), {{}}, {{Contact: "A", Value: here}}, {rows[1], rows[0]}, {rows[0], rows[0]}, {{Contact: "ann", Value: api.Value{Show: 5}}},
	}
}

// wrongLinks: such as may not be one of good, each with what would be told.
func wrongLinks() []api.Link {
	return []api.Link{
		{Seq: -1, Snap: true, Bucket: api.Bucket{Tokens: 1}}, {Seq: last + 1, Snap: true, Bucket: api.Bucket{Tokens: 1}},
		{Snap: true, Bucket: api.Bucket{Tokens: -1}}, {Snap: true, Bucket: api.Bucket{Tokens: 6}},
		{Snap: true, Bucket: api.Bucket{Tokens: 1, At: -1}}, {Snap: true, Bucket: api.Bucket{Tokens: 1, At: last + 1}},
		{Snap: true, Bucket: api.Bucket{Tokens: 1}, Digest: -1}, {Snap: true, Bucket: api.Bucket{Tokens: 1}, Digest: last + 1},
		{Snap: true, Bucket: api.Bucket{Tokens: 1}, Queue: of(off("a"))}, {Bucket: api.Bucket{Tokens: 1}, Queue: api.Queue{Latched: true}},
		{Bucket: api.Bucket{Tokens: 5}, Queue: of(off("a"), off("b"), off("c"), off("d"), off("e"))},
		{Bucket: api.Bucket{Tokens: 5}, Queue: of(off("a"), off("a"))}, {Bucket: api.Bucket{Tokens: 5}, Queue: of(off("A"))},
	}
}

// sameLinks: whether a and b are, nil or not where there is no change.
func sameLinks(a, b api.Link) bool {
	return a.Seq == b.Seq && a.Bucket == b.Bucket && a.Snap == b.Snap && a.Digest == b.Digest &&
		a.Queue.Latched == b.Queue.Latched && slices.Equal(a.Queue.List, b.Queue.List)
}

// same: whether a and b are.
func same(a, b Side) bool {
	x, y := a.Client, b.Client
	return sameLinks(a.Link, b.Link) && x.Next == y.Next && x.Out == y.Out && slices.Equal(x.Table, y.Table)
}

// copied: x with lists in memory of their own.
func copied(x Side) Side {
	x.Link.Queue.List = slices.Clone(x.Link.Queue.List)
	x.Client.Table = slices.Clone(x.Client.Table)
	return x
}

// bytesOf: the bytes of f.
func bytesOf(t *testing.T, f api.Frame) string {
	t.Helper()
	s, err := frame.Encode(f)
	if err != api.OK {
		t.Fatalf("%v has no bytes: %d", f, err)
	}
	return s
}

// goes: that x is so behind a round.
func goes(t *testing.T, c api.Config, x Side, view []api.Seen, now int, want Side) {
	t.Helper()
	if got := Round(c, x, view, now); !same(got, want) {
		t.Errorf("P20.2: Round of %v at %d: %v, not %v", x, now, got, want)
	}
}

// links: such as are asked for all.
func links() []api.Link {
	l := append(wrongLinks(), api.Link{}, still().Link, asked().Link, waiting(off("ann"), on("cid", here)).Link)
	return append(l, api.Link{Seq: last, Bucket: api.Bucket{Tokens: 64, At: last}, Digest: last, Queue: of(off("z"))})
}

func TestRead(t *testing.T) {
	for _, l := range links() {
		want := api.Link{Seq: l.Seq, Bucket: l.Bucket, Snap: true, Digest: l.Digest}
		for _, seq := range []int{0, 1, 3, 100, last} {
			got, err := Read(l, bytesOf(t, api.Frame{Kind: api.Resync, Seq: seq}))
			if !sameLinks(got, want) || err != api.OK {
				t.Errorf("P20.1: Read of Resync %d by %v: %v, %d", seq, l, got, err)
			}
			if again, err := Read(got, bytesOf(t, api.Frame{Kind: api.Resync, Seq: seq})); !sameLinks(again, want) || err != api.OK {
				t.Errorf("P20.1: Read of Resync %d by %v again: %v, %d", seq, got, again, err)
			}
		}
	}
}

func TestReadOfOtherFrames(t *testing.T) {
	for _, l := range links() {
		for _, f := range []api.Frame{
			{Kind: api.Delta, Seq: 3, Contact: "ann"}, {Kind: api.Delta, Seq: 3, Contact: "ann", On: true, Value: here}, {Kind: api.Digest, Seq: 3}, {Kind: api.Digest, Seq: 3, Sum: 4},
			{Kind: api.Snapshot, Seq: 3}, {Kind: api.Snapshot, Seq: 3, Table: rows}, {Kind: api.Snapshot}, {Kind: api.Snapshot, Seq: last},
		} {
			if got, err := Read(l, bytesOf(t, f)); !sameLinks(got, l) || err != api.ErrForm {
				t.Errorf("P20.1: Read of %v by %v: %v, %d", f, l, got, err)
			}
		}
	}
}

func TestReadOfNoFrame(t *testing.T) {
	whole := bytesOf(t, api.Frame{Kind: api.Resync, Seq: 300})
	wrong := map[string]api.Errno{"": api.ErrCut, "abc": api.ErrCut, "abcd": api.ErrSum, "\x04\x05": api.ErrCut}
	for _, bare := range []string{"", "\x00", "\x04", "\x05\x05", "\x04\x05\x00", "\x04\x85\x00", "\x03\x05"} {
		wrong[crc.Seal(bare)] = api.ErrForm
	}
	for n := range len(whole) {
		wrong[whole[:n]] = api.ErrSum
		if n < 4 {
			wrong[whole[:n]] = api.ErrCut
		}
		spoilt := []byte(whole)
		spoilt[n] ^= 1 << (n % 8)
		wrong[string(spoilt)] = api.ErrSum
	}
	for s, want := range wrong {
		for _, l := range links() {
			if got, err := Read(l, s); !sameLinks(got, l) || err != want {
				t.Errorf("P20.1: Read of %q by %v: %v, %d, not %d", s, l, got, err, want)
			}
		}
	}
}

// TestRoundOfOneThatTakesAll: as many frames as tokens allow, and nothing is asked.
func TestRoundOfOneThatTakesAll(t *testing.T) {
	goes(t, good, still(), rows, 7, still())
	goes(t, good, still(), rows, 16, still())
	fresh := Side{Link: api.Link{Bucket: api.Bucket{Tokens: 5, At: 7}, Snap: true, Digest: 7}, Client: client.New()}
	goes(t, good, fresh, rows, 8, Side{
		Link:   api.Link{Seq: 1, Bucket: api.Bucket{Tokens: 4, At: 8}, Digest: 8},
		Client: api.Client{Table: rows, Next: 1},
	})
	// A change of each kind, and a Digest of what comes of them.
	view := []api.Seen{rows[1], other[0]}
	goes(t, good, waiting(off("ann"), on("cid", away)), view, 17, Side{
		Link:   api.Link{Seq: 6, Bucket: api.Bucket{Tokens: 2, At: 17}, Digest: 17},
		Client: api.Client{Table: view, Next: 6},
	})
	few := waiting(off("ann"), on("cid", away))
	few.Link.Bucket.Tokens = 1
	goes(t, good, few, view, 7, Side{
		Link:   api.Link{Seq: 4, Queue: of(on("cid", away)), Bucket: api.Bucket{At: 7}, Digest: 7},
		Client: api.Client{Table: rows[1:], Next: 4},
	})
	few.Link.Bucket.Tokens = 0
	goes(t, good, few, view, 7, few)
}

// TestRoundOfOneThatIsOut: it asks at each round, behind what it was told, till it got all.
func TestRoundOfOneThatIsOut(t *testing.T) {
	x := still()
	x.Client.Out = true
	then := x
	then.Link.Snap = true
	goes(t, good, x, rows, 7, then)
	// What waited is not told, as all is.
	x = waiting(off("ann"), on("cid", away))
	x.Client.Out, x.Link.Bucket.Tokens = true, 1
	goes(t, good, x, other, 7, Side{
		Link:   api.Link{Seq: 4, Bucket: api.Bucket{At: 7}, Snap: true, Digest: 7},
		Client: api.Client{Table: rows, Next: 4, Out: true},
	})
	// Behind a Snapshot it asks no more.
	goes(t, good, asked(), other, 9, Side{
		Link:   api.Link{Seq: 4, Bucket: api.Bucket{Tokens: 4, At: 9}, Digest: 9},
		Client: api.Client{Table: other, Next: 4},
	})
	// Without a token nothing is told, and it asks again.
	dry := asked()
	dry.Link.Bucket.Tokens = 0
	goes(t, good, dry, other, 7, dry)
	goes(t, good, dry, other, 8, Side{
		Link:   api.Link{Seq: 4, Bucket: api.Bucket{Tokens: 1, At: 8}, Digest: 8},
		Client: api.Client{Table: other, Next: 4},
	})
}

// TestRoundThatAsks: the client takes a frame that tells it that it is behind, and asks within that round.
func TestRoundThatAsks(t *testing.T) {
	// A Digest of another table.
	goes(t, good, still(), other, 17, Side{
		Link:   api.Link{Seq: 4, Bucket: api.Bucket{Tokens: 4, At: 17}, Snap: true, Digest: 17},
		Client: api.Client{Table: rows, Next: 4, Out: true},
	})
	// A gap: what comes behind it is not set.
	behind := waiting(off("ann"), on("cid", away))
	behind.Client.Next = 2
	goes(t, good, behind, other, 7, Side{
		Link:   api.Link{Seq: 5, Bucket: api.Bucket{Tokens: 3, At: 7}, Snap: true, Digest: 7},
		Client: api.Client{Table: rows, Next: 5, Out: true},
	})
	// A row too many.
	full := waiting(on("cid", away))
	full.Client.Table = table(32)
	goes(t, good, full, table(32), 7, Side{
		Link:   api.Link{Seq: 4, Bucket: api.Bucket{Tokens: 4, At: 7}, Snap: true, Digest: 7},
		Client: api.Client{Table: table(32), Next: 4, Out: true},
	})
	// What is below Next is nothing, and so nothing is asked.
	ahead := waiting(off("ann"))
	ahead.Client.Next = 9
	goes(t, good, ahead, other, 7, Side{
		Link:   api.Link{Seq: 4, Bucket: api.Bucket{Tokens: 4, At: 7}, Digest: 7},
		Client: api.Client{Table: rows, Next: 9},
	})
}

// stuck: that nothing is told in a round, but what the client asks is read.
func stuck(t *testing.T, c api.Config, x Side, view []api.Seen, now int) {
	t.Helper()
	x.Client.Out = false
	goes(t, c, x, view, now, x)
	x.Client.Out = true
	want := x
	want.Link = api.Link{Seq: x.Link.Seq, Bucket: x.Link.Bucket, Snap: true, Digest: x.Link.Digest}
	goes(t, c, x, view, now, want)
}

func TestRoundOfWhatMayNotBe(t *testing.T) {
	sides := []Side{still(), asked(), waiting(off("ann"))}
	for _, x := range sides {
		for _, c := range badConfigs() {
			stuck(t, c, x, rows, 50)
		}
		for _, view := range wrongViews() {
			stuck(t, good, x, view, 50)
		}
		for _, now := range wrongTicks {
			stuck(t, good, x, rows, now)
		}
	}
	for _, l := range wrongLinks() {
		stuck(t, good, Side{Link: l, Client: still().Client}, rows, 50)
	}
	// A client that may not be takes nothing, and asks nothing.
	for _, wrong := range []api.Client{{Next: -1}, {Next: -1, Out: true}, {Next: last + 2, Out: true}, {Table: table(33), Out: true}, {Table: wrongViews()[3]}} {
		goes(t, good, Side{Link: asked().Link, Client: wrong}, rows, 9, Side{Link: api.Link{Seq: 4, Bucket: api.Bucket{Tokens: 4, At: 9}, Digest: 9}, Client: wrong})
	}
}

// TestRoundAtTheEndsOfTicks: at the first tick, and at the last.
func TestRoundAtTheEndsOfTicks(t *testing.T) {
	for _, now := range []int{0, last} {
		x := asked()
		x.Link.Bucket, x.Link.Digest = api.Bucket{Tokens: 2, At: now}, now
		want := Side{Link: api.Link{Seq: 4, Bucket: api.Bucket{Tokens: 1, At: now}, Digest: now}, Client: api.Client{Table: other, Next: 4}}
		goes(t, good, x, other, now, want)
	}
	x := still()
	x.Client.Out = true
	goes(t, good, x, rows, last, Side{
		Link:   api.Link{Seq: 4, Bucket: api.Bucket{Tokens: 4, At: last}, Snap: true, Digest: last},
		Client: api.Client{Table: rows, Next: 4, Out: true},
	})
}

// TestRoundAtTheLastNumbers: behind Seq 2^40 nothing is told, though it is asked for.
func TestRoundAtTheLastNumbers(t *testing.T) {
	x := asked()
	x.Link.Seq, x.Client.Next = last-1, last-1
	goes(t, good, x, other, 7, Side{Link: api.Link{Seq: last, Bucket: api.Bucket{Tokens: 4, At: 7}, Digest: 7}, Client: api.Client{Table: other, Next: last}})
	x.Link.Seq, x.Client.Next = last, last
	goes(t, good, x, other, 7, x)
	x.Link.Snap = false
	x.Client.Next = last + 1
	want := x
	want.Link.Snap = true
	goes(t, good, x, other, 7, want)
}

// daily: of this config each tick has a Digest, and a link of it has a token for it.
var daily = api.Config{Room: 1, Burst: 2, Rate: 1, Period: 1}

// TestSettle: as many rounds as are told, at the ticks that follow now.
func TestSettle(t *testing.T) {
	start := Side{Link: api.Link{Bucket: api.Bucket{Tokens: 2, At: 70}, Digest: 70}, Client: api.Client{Table: rows}}
	for _, x := range []struct{ rounds, done int }{
		{math.MinInt, 0}, {-3000, 0}, {-1, 0}, {0, 0}, {1, 1}, {2, 2}, {7, 7}, {1000, 1000}, {2999, 2999}, {3000, 3000}, {3001, 3000}, {3002, 3000}, {6000, 3000}, {far, 3000},
	} {
		want := start
		if x.done > 0 {
			want = Side{
				Link:   api.Link{Seq: x.done, Bucket: api.Bucket{Tokens: 1, At: 70 + x.done}, Digest: 70 + x.done},
				Client: api.Client{Table: rows, Next: x.done},
			}
		}
		if got := Settle(daily, start, rows, 70, x.rounds); !same(got, want) {
			t.Errorf("P20.2: Settle of %d rounds: %v, not %v", x.rounds, got, want)
		}
	}
}

// TestSettleByRounds: Round by Round, at each tick that follows now, those that are no ticks too.
func TestSettleByRounds(t *testing.T) {
	sides := []Side{still(), asked(), waiting(off("ann"), on("cid", here), off("dan"), off("eve"))}
	behind := still()
	behind.Client.Next = 1
	sides = append(sides, behind, Side{Link: wrongLinks()[0], Client: api.Client{Out: true}}, Side{})
	for _, x := range sides {
		for _, now := range []int{-3, -2, -1, 0, 1, 6, 7, 16, 100, last - 3, last - 1, last, last + 1, math.MinInt, far - 5} {
			for _, c := range []api.Config{good, daily, {}} {
				for _, view := range [][]api.Seen{nil, rows, other, table(33)} {
					want := x
					for n := 1; n < 5; n++ {
						want = Round(c, want, view, now+n)
						if got := Settle(c, x, view, now, n); !same(got, want) {
							t.Fatalf("P20.2: Settle of %v, %v from %d on, %d rounds: %v, not %v", c, x, now, n, got, want)
						}
					}
				}
			}
		}
	}
	// The tick behind -1 is one, the one behind 2^40 is none.
	first := asked()
	first.Link.Bucket.At, first.Link.Digest = 0, 0
	if got := Settle(good, first, other, -1, 1); got.Link.Seq != 4 || got.Client.Out {
		t.Errorf("P20.2: at the first tick: %v", got)
	}
	if got := Settle(good, first, other, last, 5); !same(got, first) {
		t.Errorf("P20.2: behind the last tick: %v", got)
	}
	if got := Settle(good, first, other, last-1, 5); got.Link.Seq != 4 || got.Link.Bucket.At != last {
		t.Errorf("P20.2: at the last tick: %v", got)
	}
	Settle(good, first, other, far, 3)
}

func TestBound(t *testing.T) {
	for _, x := range []struct {
		c    api.Config
		want int
	}{
		{api.Config{Room: 1, Burst: 1, Rate: 1, Period: 5}, 8}, {good, 16}, {daily, 4}, {api.Config{Room: 16, Burst: 64, Rate: 16, Period: 1000}, 1018},
		{api.Config{Room: 16, Burst: 1, Rate: 1, Period: 1}, 19}, {api.Config{Room: 1, Burst: 1, Rate: 1, Period: 1000}, 1003},
		{api.Config{Room: 2, Burst: 64, Rate: 16, Period: 3}, 7},
	} {
		if got := Bound(x.c); got != x.want {
			t.Errorf("P20.3: Bound of %v: %d, not %d", x.c, got, x.want)
		}
	}
	for room := 1; room <= 16; room++ {
		for period := 1; period <= 1000; period++ {
			if got := Bound(api.Config{Room: room, Burst: 3, Rate: 2, Period: period}); got != room+period+2 {
				t.Fatalf("P20.3: Bound of room %d, period %d: %d", room, period, got)
			}
		}
	}
	for _, c := range badConfigs() {
		if got := Bound(c); got != 0 {
			t.Errorf("P20.3: Bound of %v: %d", c, got)
		}
	}
}

// TestSynced: each of its words broken by itself.
func TestSynced(t *testing.T) {
	if !Synced(still(), rows) || !Synced(Side{}, nil) || !Synced(Side{}, []api.Seen{}) {
		t.Error("P20.4: what is synced is not")
	}
	for i, spoil := range []func(x *Side){
		func(x *Side) { x.Link.Snap = true },
		func(x *Side) { x.Link.Queue = of(off("zz")) },
		func(x *Side) { x.Link.Queue = of(on("ann", here)) },
		func(x *Side) { x.Link.Queue = api.Queue{Latched: true} },
		func(x *Side) { x.Client.Out = true },
		func(x *Side) { x.Client.Next++ },
		func(x *Side) { x.Client.Next-- },
		func(x *Side) { x.Link.Seq++ },
		func(x *Side) { x.Link.Seq-- },
		func(x *Side) { x.Client.Next = 0 },
		func(x *Side) { x.Client.Table = nil },
		func(x *Side) { x.Client.Table = rows[:1] },
		func(x *Side) { x.Client.Table = other },
		func(x *Side) { x.Client.Table = []api.Seen{rows[1], rows[0]} },
		func(x *Side) { x.Client.Table = []api.Seen{rows[0], {Contact: "bob", Value: here}} },
		func(x *Side) { x.Client.Table = append(slices.Clone(rows), other...) },
	} {
		x := still()
		spoil(&x)
		if Synced(x, rows) {
			t.Errorf("P20.4: case %d: %v is synced", i, x)
		}
	}
	for i, view := range [][]api.Seen{nil, rows[:1], rows[1:], other, {rows[1], rows[0]}, table(32)} {
		if Synced(still(), view) {
			t.Errorf("P20.4: case %d: it is synced of %v", i, view)
		}
	}
	// What is not named is not looked at.
	x := still()
	x.Link.Bucket, x.Link.Digest = api.Bucket{Tokens: -1, At: -1}, -1
	if !Synced(x, rows) {
		t.Errorf("P20.4: %v is not synced", x)
	}
	x.Link.Seq, x.Client.Next = -4, -4
	x.Client.Table = wrongViews()[3]
	if !Synced(x, wrongViews()[3]) {
		t.Errorf("P20.4: %v is not synced", x)
	}
}

// TestExample: as the chapter tells.
func TestExample(t *testing.T) {
	if got := Bound(api.Config{Room: 1, Burst: 1, Rate: 1, Period: 5}); got != 8 {
		t.Errorf("P20.3: %d", got)
	}
}

// lossy: a side of c, and its view, that lived for a while, with frames, and questions, lost; and the tick then.
func lossy(t *testing.T, r *rand.Rand, c api.Config) (Side, []api.Seen, int) {
	t.Helper()
	now := r.Intn(50)
	l, err := link.New(c, now)
	if err != api.OK {
		t.Fatal(err)
	}
	x := Side{Link: l, Client: client.New()}
	var view []api.Seen
	for range r.Intn(60) {
		for range r.Intn(4) {
			change := api.Change{Contact: string(rune('a' + r.Intn(9)))}
			if r.Intn(3) > 0 {
				change = on(change.Contact, api.Value{Show: 1 + r.Intn(4)})
			}
			// Only what changes the view is told.
			for _, y := range digest.Changes(view, digest.Set(view, change)) {
				x.Link = link.Push(c, x.Link, y)
				view = digest.Set(view, y)
			}
		}
		var told []api.Frame
		if r.Intn(3) > 0 {
			x.Link, told = link.Emit(c, x.Link, view, now)
		}
		for _, f := range told {
			if r.Intn(4) > 0 {
				x.Client = client.Feed(x.Client, f)
			}
		}
		if s, ok := client.Ask(x.Client); ok && r.Intn(3) == 0 {
			x.Link, _ = Read(x.Link, s)
		}
		now += r.Intn(3)
	}
	return x, view, now
}

// TestWhatWasLostIsSettled: in as many rounds as Bound tells, and stays so.
func TestWhatWasLostIsSettled(t *testing.T) {
	r := rand.New(rand.NewSource(20))
	behind := 0
	for range 4000 {
		c := api.Config{Room: 1 + r.Intn(5), Burst: 1 + r.Intn(4), Rate: 1 + r.Intn(3), Period: 1 + r.Intn(15)}
		x, view, now := lossy(t, r, c)
		if !Synced(x, view) {
			behind++
		}
		rounds := Bound(c)
		got := Settle(c, x, view, now, rounds)
		if !Synced(got, view) {
			t.Fatalf("P20.5: %v of %v at %d, settled: %v, not %v", x, c, now, got, view)
		}
		for n := range 25 {
			got = Round(c, got, view, now+rounds+1+n)
			if !Synced(got, view) {
				t.Fatalf("P20.5: %v of %v is not synced any more: %v", got, c, view)
			}
		}
	}
	if behind < 1000 {
		t.Errorf("%d sides alone were behind", behind)
	}
}

// TestTheLastIsLost: only the next Digest tells, and there is no token yet.
func TestTheLastIsLost(t *testing.T) {
	for _, c := range []api.Config{daily, good, {Room: 1, Burst: 1, Rate: 1, Period: 5}, {Room: 16, Burst: 1, Rate: 1, Period: 1000}, {Room: 16, Burst: 64, Rate: 16, Period: 1000}} {
		// All that waits is told within Room rounds, a token each, and is lost on the way but for one.
		x := Side{Link: api.Link{Seq: 9, Bucket: api.Bucket{At: 40}, Digest: 40}, Client: api.Client{Table: rows, Next: 8}}
		for _, now := range []int{40, 41, 60} {
			got := Settle(c, x, other, now, Bound(c))
			if !Synced(got, other) {
				t.Errorf("P20.5: of %v: %v", c, got)
			}
		}
		// Ahead of the Digest nobody knows.
		if c.Period > 1 {
			if got := Settle(c, x, other, 40, c.Period-1); !same(got, x) {
				t.Errorf("P20.2: of %v ahead of the Digest: %v", c, got)
			}
		}
		if got := Settle(c, x, other, 40, c.Period); !got.Client.Out || !got.Link.Snap || Synced(got, other) {
			t.Errorf("P20.2: of %v at the Digest: %v", c, got)
		}
		if got := Settle(c, x, other, 40, c.Period+1); !Synced(got, other) {
			t.Errorf("P20.2: of %v behind the Digest: %v", c, got)
		}
	}
}

// TestArgumentsStay: what was handed in is as it was, and what stands in spare memory behind it; what was answered stays too.
func TestArgumentsStay(t *testing.T) {
	spare := on("spare", away)
	changes := []api.Change{off("ann"), on("cid", here), spare, spare}
	has := append(slices.Clone(rows), api.Seen{Contact: "spare"}, api.Seen{Contact: "spare"})
	view := append(slices.Clone(other), api.Seen{Contact: "spare"})
	var kept []Side
	for _, next := range []int{2, 3} {
		x := waiting(changes[:2]...)
		x.Client = api.Client{Table: has[:2], Next: next}
		for n := range 15 {
			got := Settle(good, x, view[:1], 7, n)
			kept = append(kept, got, copied(got))
			Settle(good, got, rows, 20, 20)
			Read(got.Link, bytesOf(t, api.Frame{Kind: api.Resync}))
			Synced(got, view[:1])
		}
	}
	if !slices.Equal(changes, []api.Change{off("ann"), on("cid", here), spare, spare}) {
		t.Errorf("R5: the queue is %v now", changes)
	}
	if !slices.Equal(has, append(slices.Clone(rows), api.Seen{Contact: "spare"}, api.Seen{Contact: "spare"})) {
		t.Errorf("R5: the client's table is %v now", has)
	}
	if !slices.Equal(view, append(slices.Clone(other), api.Seen{Contact: "spare"})) {
		t.Errorf("R5: the view is %v now", view)
	}
	for i := 0; i < len(kept); i += 2 {
		if !same(kept[i], kept[i+1]) {
			t.Errorf("R5: what was answered, %v, is %v now", kept[i+1], kept[i])
		}
	}
}

// TestAnswersHangOnArgumentsAlone: in whatever order they are asked.
func TestAnswersHangOnArgumentsAlone(t *testing.T) {
	for range 3 {
		goes(t, good, asked(), other, 9, Side{Link: api.Link{Seq: 4, Bucket: api.Bucket{Tokens: 4, At: 9}, Digest: 9}, Client: api.Client{Table: other, Next: 4}})
		goes(t, good, still(), rows, 7, still())
		if got := Settle(good, asked(), rows, 7, 1); !Synced(got, rows) || Synced(got, other) || Bound(good) != 16 {
			t.Errorf("R6: %v", got)
		}
		if got, err := Read(still().Link, "spoilt"); !sameLinks(got, still().Link) || err != api.ErrSum {
			t.Errorf("R6: %v, %d", got, err)
		}
	}
}

func TestMuchIsDoneSoon(t *testing.T) {
	start := time.Now()
	x := Side{Link: api.Link{Bucket: api.Bucket{Tokens: 1}, Snap: true}, Client: client.New()}
	for n := range 5 {
		x = Settle(daily, x, table(32), 3000*n, far)
	}
	if x.Link.Seq != 15000 || !Synced(x, table(32)) {
		t.Errorf("P20.2: %d frames", x.Link.Seq)
	}
	big := slices.Repeat(rows, 200000)
	y := still()
	y.Client.Table = big
	if got := Settle(good, y, big, 100, 3000); !same(got, y) || !Synced(got, big) {
		t.Error("P20.2: of a view that may not be")
	}
	if _, err := Read(api.Link{}, strings.Repeat("a", 1<<20)); err != api.ErrSum {
		t.Errorf("P20.1: %d", err)
	}
	if took := time.Since(start); took > 20*time.Second {
		t.Errorf("R1: many rounds took %v", took)
	}
}
