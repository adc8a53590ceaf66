package client

import (
	"math"
	"math/rand"
	"slices"
	"strings"
	"testing"
	"time"

	"rollcall/api"
	"rollcall/crc"
	"rollcall/digest"
	"rollcall/frame"
)

const (
	last = 1 << 40
	far  = math.MaxInt
)

var (
	here = api.Value{Show: api.Online, Since: 5}
	away = api.Value{Show: api.Away, Prio: -3, Since: 300, Status: "lunch"}
)

// rows: a table of two.
var rows = []api.Seen{{Contact: "ann", Value: here}, {Contact: "bob", Value: away}}

// other: a table of one, none of the two.
var other = []api.Seen{{Contact: "cid", Value: away}}

// wrongNexts: numbers that are no Next.
var wrongNexts = []int{-1, -2, last + 2, last + 3, 1 << 41, 1 << 62, -last, far, math.MinInt}

// in: a client that trusts t, and awaits next.
func in(next int, t []api.Seen) api.Client {
	return api.Client{Table: t, Next: next}
}

// out: a client that does not trust t, and awaits next.
func out(next int, t []api.Seen) api.Client {
	return api.Client{Table: t, Next: next, Out: true}
}

// on: the frame of that number that tells that contact is seen at v.
func on(seq int, contact string, v api.Value) api.Frame {
	return api.Frame{Kind: api.Delta, Seq: seq, On: true, Contact: contact, Value: v}
}

// off: the frame of that number that tells that contact is seen no more.
func off(seq int, contact string) api.Frame {
	return api.Frame{Kind: api.Delta, Seq: seq, Contact: contact}
}

// snapshot: the frame of that number that tells t.
func snapshot(seq int, t []api.Seen) api.Frame {
	return api.Frame{Kind: api.Snapshot, Seq: seq, Table: t}
}

// sum: the frame of that number that tells a digest of t.
func sum(seq int, t []api.Seen) api.Frame {
	return api.Frame{Kind: api.Digest, Seq: seq, Sum: digest.Sum(t)}
}

// resync: the frame of that number by which all is asked for.
func resync(seq int) api.Frame {
	return api.Frame{Kind: api.Resync, Seq: seq}
}

// table: so many rows, that may be a table if they are not above 32.
func table(count int) []api.Seen {
	var t []api.Seen
	for n := range count {
		t = append(t, api.Seen{Contact: "a" + string(rune('a'+n/26)) + string(rune('a'+n%26)), Value: here})
	}
	return t
}

// wrongTables: such as may not be.
func wrongTables() [][]api.Seen {
	return [][]api.Seen{
		table(33), {{}}, {{Contact: "ann"}}, {{Contact: "A", Value: here}}, {{Value: here}},
		{rows[1], rows[0]}, {rows[0], rows[0]}, {rows[0], rows[1], rows[1]},
		{{Contact: "ann", Value: api.Value{Show: 5}}}, {{Contact: strings.Repeat("a", 17), Value: here}},
	}
}

// wrongFrames: such as may not be, of Seq 5.
func wrongFrames() []api.Frame {
	l := []api.Frame{
		{}, {Seq: 5}, {Kind: -1, Seq: 5}, {Kind: 5, Seq: 5}, {Kind: far, Seq: 5, Table: rows}, {Kind: math.MinInt, Seq: 5},
		{Kind: api.Delta, Seq: 5}, {Kind: api.Delta, Seq: 5, On: true, Contact: "ann"}, {Kind: api.Delta, Seq: 5, Contact: "ann", Value: here},
		on(5, "A", here), on(5, "", here), on(5, "ann", api.Value{Show: 5}), off(5, "A"), off(5, ""),
		{Kind: api.Delta, Seq: 5, Contact: "ann", Sum: 1}, {Kind: api.Delta, Seq: 5, Contact: "ann", Table: rows},
		{Kind: api.Digest, Seq: 5, Contact: "ann"}, {Kind: api.Digest, Seq: 5, On: true}, {Kind: api.Digest, Seq: 5, Table: rows}, {Kind: api.Digest, Seq: 5, Value: here},
		{Kind: api.Snapshot, Seq: 5, Sum: 1}, {Kind: api.Snapshot, Seq: 5, On: true, Table: rows}, {Kind: api.Snapshot, Seq: 5, Contact: "ann"}, {Kind: api.Snapshot, Seq: 5, Value: here},
		{Kind: api.Resync, Seq: 5, Sum: 1}, {Kind: api.Resync, Seq: 5, Table: rows},
	}
	for _, t := range wrongTables() {
		l = append(l, snapshot(5, t))
	}
	for _, seq := range []int{-1, -5, last + 1, last + 2, far, math.MinInt} {
		l = append(l, on(seq, "ann", here), off(seq, "ann"), sum(seq, rows), snapshot(seq, rows), resync(seq))
	}
	return l
}

// goods: one frame of that number of each Kind that does something to whoever has rows.
func goods(seq int) []api.Frame {
	return []api.Frame{on(seq, "cid", here), off(seq, "ann"), sum(seq, nil), snapshot(seq, other), snapshot(seq, nil)}
}

// same: whether a and b are, told without the package's own word.
func same(a, b api.Client) bool {
	return a.Next == b.Next && a.Out == b.Out && slices.Equal(a.Table, b.Table)
}

// copied: c with rows in memory of their own.
func copied(c api.Client) api.Client {
	c.Table = slices.Clone(c.Table)
	return c
}

// feeds: that c is so behind f.
func feeds(t *testing.T, c api.Client, f api.Frame, want api.Client) {
	t.Helper()
	if got := Feed(c, f); !same(got, want) {
		t.Errorf("P19.2: Feed of %v to %v: %v, not %v", f, c, got, want)
	}
}

func TestNew(t *testing.T) {
	for range 2 {
		c := New()
		if len(c.Table) != 0 || c.Next != 0 || c.Out {
			t.Errorf("P19.1: New: %v", c)
		}
		if !May(c) {
			t.Errorf("P19.1: New, %v, may not be", c)
		}
		if s, ok := Ask(c); s != "" || ok {
			t.Errorf("P19.3: New asks: %q, %v", s, ok)
		}
		Feed(c, snapshot(0, rows))
	}
}

func TestMay(t *testing.T) {
	tables := [][]api.Seen{nil, {}, rows, other, table(1), table(31), table(32)}
	for _, x := range tables {
		for _, next := range []int{0, 1, 5, last - 1, last, last + 1} {
			if !May(in(next, x)) || !May(out(next, x)) {
				t.Errorf("P19.1: %v may not be", in(next, x))
			}
		}
		for _, next := range wrongNexts {
			if May(in(next, x)) || May(out(next, x)) {
				t.Errorf("P19.1: %v may be", in(next, x))
			}
		}
	}
	for _, x := range wrongTables() {
		for _, next := range append(wrongNexts, 0, 5, last, last+1) {
			if May(in(next, x)) || May(out(next, x)) {
				t.Errorf("P19.1: %v may be", in(next, x))
			}
		}
	}
}

// TestSame: of two that differ in each of their fields by itself.
func TestSame(t *testing.T) {
	all := []api.Client{
		in(0, nil), out(0, nil), in(1, nil), in(-1, nil), in(last, nil), in(0, rows), out(0, rows), in(5, rows), out(5, rows), in(0, rows[:1]), in(0, rows[1:]), in(0, other),
		in(0, []api.Seen{rows[1], rows[0]}), in(0, []api.Seen{rows[0], rows[0]}), in(0, []api.Seen{{}}), in(0, []api.Seen{{}, {}}),
		in(0, []api.Seen{{Contact: "ann", Value: api.Value{Show: api.Busy, Since: 5}}, rows[1]}),
		in(0, []api.Seen{{Contact: "ann", Value: api.Value{Show: api.Online, Prio: 1, Since: 5}}, rows[1]}),
		in(0, []api.Seen{{Contact: "ann", Value: api.Value{Show: api.Online, Since: 6}}, rows[1]}),
		in(0, []api.Seen{{Contact: "ann", Value: api.Value{Show: api.Online, Since: 5, Status: "x"}}, rows[1]}),
		in(0, []api.Seen{{Contact: "ben", Value: here}, rows[1]}),
		in(0, []api.Seen{rows[0], {Contact: "bob", Value: here}}),
		in(0, table(33)), in(0, table(34)),
	}
	for i, a := range all {
		for j, b := range all {
			if got := Same(copied(a), b); got != (i == j) {
				t.Errorf("P19.1: Same of %v and %v: %v", a, b, got)
			}
		}
	}
	if !Same(in(3, nil), in(3, []api.Seen{})) || !Same(in(3, []api.Seen{}), in(3, nil)) || !Same(New(), api.Client{}) {
		t.Error("P19.1: without rows, nil or not, is not the same")
	}
}

func TestFeedOfWhatMayNotBe(t *testing.T) {
	var wrong []api.Client
	for _, next := range wrongNexts {
		wrong = append(wrong, in(next, nil), in(next, rows), out(next, rows))
	}
	for _, x := range wrongTables() {
		wrong = append(wrong, in(0, x), in(5, x), out(5, x))
	}
	for _, c := range wrong {
		for _, seq := range []int{0, 5, 6, last} {
			for _, f := range append(goods(seq), resync(seq)) {
				feeds(t, c, f, c)
			}
		}
	}
	for _, f := range wrongFrames() {
		for _, c := range []api.Client{New(), in(5, rows), out(5, rows), in(0, rows), out(3, nil), in(6, rows), in(last+1, rows), in(-1, rows)} {
			feeds(t, c, f, c)
		}
	}
}

// TestFeedOfResync: it is nothing to a client, whatever its number.
func TestFeedOfResync(t *testing.T) {
	for _, c := range []api.Client{New(), in(5, rows), out(5, rows), out(5, nil), in(last, rows), in(last+1, rows)} {
		for _, seq := range []int{0, 4, 5, 6, 100, last} {
			feeds(t, c, resync(seq), c)
		}
	}
}

// TestFeedBelowNext: what comes late, or twice, changes nothing.
func TestFeedBelowNext(t *testing.T) {
	for _, next := range []int{1, 2, 5, last, last + 1} {
		for _, seq := range []int{0, next - 2, next - 1} {
			for _, f := range goods(max(seq, 0)) {
				feeds(t, in(next, rows), f, in(next, rows))
				feeds(t, out(next, rows), f, out(next, rows))
			}
		}
	}
}

func TestFeedOfSnapshots(t *testing.T) {
	for _, has := range [][]api.Seen{nil, {}, rows, table(32)} {
		for _, told := range [][]api.Seen{nil, {}, rows, other, table(32)} {
			for _, seq := range []int{5, 6, 7, 100, last - 1, last} {
				feeds(t, in(5, has), snapshot(seq, told), in(seq+1, told))
				feeds(t, out(5, has), snapshot(seq, told), in(seq+1, told))
			}
			feeds(t, api.Client{Table: has}, snapshot(0, told), in(1, told))
		}
	}
}

func TestFeedOfDeltas(t *testing.T) {
	busy := api.Value{Show: api.Busy}
	for i, x := range []struct {
		has  []api.Seen
		f    api.Frame
		then []api.Seen
	}{
		{nil, on(5, "ann", here), rows[:1]},
		{rows[:1], on(5, "bob", away), rows},
		{rows[1:], on(5, "ann", here), rows},
		{rows, on(5, "al", busy), []api.Seen{{Contact: "al", Value: busy}, rows[0], rows[1]}},
		{rows, on(5, "ben", busy), []api.Seen{rows[0], {Contact: "ben", Value: busy}, rows[1]}},
		{rows, on(5, "ann", busy), []api.Seen{{Contact: "ann", Value: busy}, rows[1]}},
		{rows, on(5, "ann", here), rows},
		{rows, off(5, "ann"), rows[1:]},
		{rows, off(5, "bob"), rows[:1]},
		{rows[:1], off(5, "ann"), nil},
		{rows, off(5, "cid"), rows},
		{nil, off(5, "ann"), nil},
		{table(31), on(5, "aab", here), table(31)},
		{table(31), on(5, "abf", here), table(32)},
		{table(32), on(5, "aaa", here), table(32)},
		{table(32), off(5, "abf"), table(31)},
		{table(32), off(5, "zz"), table(32)},
	} {
		feeds(t, in(5, x.has), x.f, in(6, x.then))
		// Whoever is Out stays so, and has what it had.
		feeds(t, out(5, x.has), x.f, out(6, x.has))
		// Behind a gap it is Out, however near.
		for _, next := range []int{0, 3, 4} {
			feeds(t, in(next, x.has), x.f, out(6, x.has))
			feeds(t, out(next, x.has), x.f, out(6, x.has))
		}
		if t.Failed() {
			t.Fatalf("P19.2: case %d", i)
		}
	}
}

// TestFeedWithoutRoom: a row more than a table may have.
func TestFeedWithoutRoom(t *testing.T) {
	full := table(32)
	for _, contact := range []string{"a", "aaaa", "zzz", "b-1"} {
		feeds(t, in(5, full), on(5, contact, here), out(6, full))
		feeds(t, out(5, full), on(5, contact, here), out(6, full))
		feeds(t, in(4, full), on(5, contact, here), out(6, full))
		feeds(t, in(5, full), off(5, contact), in(6, full))
		feeds(t, in(last, full), on(last, contact, here), out(last+1, full))
	}
}

func TestFeedOfDigests(t *testing.T) {
	tables := [][]api.Seen{nil, rows, rows[:1], other, table(32)}
	for i, has := range tables {
		for j, told := range tables {
			want := out(6, has)
			if i == j {
				want = in(6, has)
			}
			feeds(t, in(5, has), sum(5, told), want)
			// A digest makes nobody trust what it did not trust, nor what it missed a frame of.
			feeds(t, out(5, has), sum(5, told), out(6, has))
			for _, next := range []int{0, 3, 4} {
				feeds(t, in(next, has), sum(5, told), out(6, has))
				feeds(t, out(next, has), sum(5, told), out(6, has))
			}
		}
		for bit := range 64 {
			f := sum(5, has)
			f.Sum ^= 1 << bit
			feeds(t, in(5, has), f, out(6, has))
		}
		feeds(t, in(5, has), api.Frame{Kind: api.Digest, Seq: 5}, out(6, has))
		feeds(t, in(5, has), api.Frame{Kind: api.Digest, Seq: 5, Sum: math.MaxUint64}, out(6, has))
	}
}

// TestFeedAtTheLastNumber: behind Seq 2^40 none is awaited, and none taken.
func TestFeedAtTheLastNumber(t *testing.T) {
	feeds(t, in(last, rows), on(last, "bob", away), in(last+1, rows))
	feeds(t, in(last, rows), off(last, "bob"), in(last+1, rows[:1]))
	feeds(t, in(last, rows), sum(last, rows), in(last+1, rows))
	feeds(t, in(last, rows), sum(last, nil), out(last+1, rows))
	feeds(t, in(last-1, rows), off(last, "bob"), out(last+1, rows))
	feeds(t, out(0, rows), snapshot(last, other), in(last+1, other))
	for _, f := range goods(last) {
		if got := Feed(in(last, rows), f); got.Next != last+1 || !May(got) {
			t.Errorf("P19.2: Feed of %v: %v", f, got)
		}
		feeds(t, in(last+1, rows), f, in(last+1, rows))
		feeds(t, out(last+1, rows), f, out(last+1, rows))
	}
	for _, f := range goods(last - 1) {
		if got := Feed(in(last-1, rows), f); got.Next != last {
			t.Errorf("P19.2: Feed of %v: %v", f, got)
		}
	}
}

// TestTwice: the same frame at once again, and later.
func TestTwice(t *testing.T) {
	all := []api.Frame{snapshot(0, rows), on(1, "cid", here), off(2, "ann"), sum(3, []api.Seen{rows[1], {Contact: "cid", Value: here}}), on(4, "ann", away), snapshot(5, other), sum(6, other)}
	c := New()
	for i, f := range all {
		c = Feed(c, f)
		if c.Out || c.Next != i+1 {
			t.Fatalf("P19.2: behind %v: %v", f, c)
		}
		for _, old := range all[:i+1] {
			feeds(t, c, old, c)
		}
	}
	feeds(t, c, off(7, "cid"), in(8, nil))
}

// TestExample: as the chapter tells.
func TestExample(t *testing.T) {
	c := Feed(Feed(New(), snapshot(0, rows)), off(2, "ann"))
	if !same(c, out(3, rows)) {
		t.Errorf("P19.2: %v", c)
	}
}

// TestANewClient: it trusts that it has nothing, till it misses something.
func TestANewClient(t *testing.T) {
	feeds(t, New(), on(0, "ann", here), in(1, rows[:1]))
	feeds(t, New(), sum(0, nil), in(1, nil))
	feeds(t, New(), sum(0, rows), out(1, nil))
	feeds(t, New(), on(1, "ann", here), out(2, nil))
	feeds(t, New(), sum(1, nil), out(2, nil))
	feeds(t, New(), snapshot(9, rows), in(10, rows))
}

// bytesOf: the bytes of f.
func bytesOf(t *testing.T, f api.Frame) string {
	t.Helper()
	s, err := frame.Encode(f)
	if err != api.OK {
		t.Fatalf("%v has no bytes: %d", f, err)
	}
	return s
}

func TestRead(t *testing.T) {
	clients := []api.Client{New(), in(5, rows), out(5, rows), in(6, rows), in(3, table(32)), in(-1, rows), in(5, table(33)), out(last+2, nil)}
	for _, c := range clients {
		for _, f := range append(goods(5), on(5, "zzz", away), sum(5, rows), resync(5), resync(0), snapshot(last, table(32)), snapshot(0, nil)) {
			if got, err := Read(c, bytesOf(t, f)); !same(got, Feed(c, f)) || err != api.OK {
				t.Errorf("P19.3: Read of %v by %v: %v, %d", f, c, got, err)
			}
		}
	}
	got, err := Read(in(5, rows), bytesOf(t, snapshot(7, other)))
	if !same(got, in(8, other)) || err != api.OK {
		t.Errorf("P19.3: %v, %d", got, err)
	}
}

func TestReadOfNoFrame(t *testing.T) {
	whole := bytesOf(t, snapshot(5, other))
	wrong := map[string]api.Errno{"": api.ErrCut, "abc": api.ErrCut, "abcd": api.ErrSum, "\x00\x00\x00\x00": api.ErrForm}
	for _, bare := range []string{"\x00", "\x05\x05", "\x04", "\x03\x05", "\x03\x05\x00more", "\x04\x05\x00", "\x02\x05abc"} {
		wrong[crc.Seal(bare)] = api.ErrForm
	}
	for n := range len(whole) {
		if n < 4 {
			wrong[whole[:n]] = api.ErrCut
		} else {
			wrong[whole[:n]] = api.ErrSum
		}
		for bit := range 8 {
			spoilt := []byte(whole)
			spoilt[n] ^= 1 << bit
			wrong[string(spoilt)] = api.ErrSum
		}
	}
	for s, want := range wrong {
		for _, c := range []api.Client{New(), in(5, rows), out(5, rows), in(0, rows), in(-1, rows), in(5, table(33))} {
			if got, err := Read(c, s); !same(got, c) || err != want {
				t.Errorf("P19.3: Read of %q by %v: %v, %d, not %d", s, c, got, err, want)
			}
		}
	}
}

func TestAsk(t *testing.T) {
	for _, x := range [][]api.Seen{nil, rows, table(32)} {
		for _, next := range []int{0, 1, 5, 127, 128, last - 1, last, last + 1} {
			s, ok := Ask(out(next, x))
			f, err := frame.Decode(s)
			if !ok || err != api.OK || !frame.Same(f, resync(min(next, last))) {
				t.Errorf("P19.3: %v asks %q, %v: %v, %d", out(next, x), s, ok, f, err)
			}
			if s, ok := Ask(in(next, x)); s != "" || ok {
				t.Errorf("P19.3: %v asks %q, %v", in(next, x), s, ok)
			}
		}
		for _, next := range wrongNexts {
			if s, ok := Ask(out(next, x)); s != "" || ok {
				t.Errorf("P19.3: %v asks %q, %v", out(next, x), s, ok)
			}
		}
	}
	for _, x := range wrongTables() {
		for _, c := range []api.Client{out(0, x), out(5, x), in(5, x)} {
			if s, ok := Ask(c); s != "" || ok {
				t.Errorf("P19.3: %v asks %q, %v", c, s, ok)
			}
		}
	}
	if s, _ := Ask(out(5, rows)); s != crc.Seal("\x04\x05") {
		t.Errorf("P19.3: %q", s)
	}
}

// fed: P19.2 word by word.
func fed(c api.Client, f api.Frame) api.Client {
	mayBe := digest.May(c.Table) && c.Next >= 0 && c.Next <= last+1
	if !mayBe || !frame.May(f) || f.Kind == api.Resync || f.Seq < c.Next {
		return c
	}
	gone := f.Seq > c.Next
	c.Next = f.Seq + 1
	if f.Kind == api.Snapshot {
		return in(c.Next, f.Table)
	}
	if c.Out || gone {
		return out(c.Next, c.Table)
	}
	if f.Kind == api.Digest {
		c.Out = digest.Sum(c.Table) != f.Sum
		return c
	}
	t := digest.Set(c.Table, api.Change{Contact: f.Contact, On: f.On, Value: f.Value})
	if len(t) > 32 {
		return out(c.Next, c.Table)
	}
	return in(c.Next, t)
}

// randomTable: one that may be, but for one in thirty.
func randomTable(r *rand.Rand) []api.Seen {
	switch r.Intn(30) {
	case 0:
		return wrongTables()[r.Intn(len(wrongTables()))]
	case 1, 2:
		return table(32)
	}
	var t []api.Seen
	for n := range 6 {
		if r.Intn(2) == 0 {
			t = append(t, api.Seen{Contact: string(rune('a' + n)), Value: api.Value{Show: 1 + r.Intn(4)}})
		}
	}
	return t
}

// randomFrame: one of that number, that may be, but for few.
func randomFrame(r *rand.Rand, seq int, has []api.Seen) api.Frame {
	contact := string(rune('a' + r.Intn(7)))
	switch r.Intn(12) {
	case 0:
		return wrongFrames()[r.Intn(len(wrongFrames()))]
	case 1:
		return resync(seq)
	case 2, 3:
		return snapshot(seq, randomTable(r))
	case 4:
		return sum(seq, randomTable(r))
	case 5, 6:
		return sum(seq, has)
	case 7, 8:
		return off(seq, contact)
	}
	return on(seq, contact, api.Value{Show: 1 + r.Intn(4)})
}

// TestFeedAgainstOracle: of any clients and frames.
func TestFeedAgainstOracle(t *testing.T) {
	r := rand.New(rand.NewSource(19))
	for range 300000 {
		c := api.Client{Table: randomTable(r), Next: r.Intn(12) - 1, Out: r.Intn(3) == 0}
		if r.Intn(6) == 0 {
			c.Next = last - 3 + r.Intn(6)
		}
		f := randomFrame(r, c.Next+r.Intn(6)-2, c.Table)
		got, want := Feed(c, f), fed(c, f)
		if !same(got, want) {
			t.Fatalf("P19.2: Feed of %v to %v: %v, not %v", f, c, got, want)
		}
		if May(c) && !May(got) {
			t.Fatalf("P19.4: of %v, that may be, comes %v", c, got)
		}
	}
}

// stream: frames that tell what is seen, from Seq 0 on, and what is seen behind each.
func stream(r *rand.Rand, count int) ([]api.Frame, [][]api.Seen) {
	var frames []api.Frame
	var tables [][]api.Seen
	var is []api.Seen
	for seq := range count {
		f := snapshot(seq, is)
		switch kind := r.Intn(12); {
		case kind < 2 && seq > 0:
			f = sum(seq, is)
		case kind < 11 && seq > 0:
			x := api.Change{Contact: string(rune('a' + r.Intn(6)))}
			if r.Intn(3) > 0 {
				x.On, x.Value = true, api.Value{Show: 1 + r.Intn(4), Since: seq}
			}
			is = digest.Set(is, x)
			f = api.Frame{Kind: api.Delta, Seq: seq, On: x.On, Contact: x.Contact, Value: x.Value}
		}
		frames, tables = append(frames, f), append(tables, is)
	}
	return frames, tables
}

// TestWhoeverMissesOneIsOut: till a Snapshot comes; frames come twice and late in between.
func TestWhoeverMissesOneIsOut(t *testing.T) {
	r := rand.New(rand.NewSource(20))
	for range 400 {
		frames, tables := stream(r, 60)
		c, missed := New(), false
		for seq, f := range frames {
			if r.Intn(8) == 0 {
				missed = true
				continue
			}
			c = Feed(c, f)
			missed = missed && f.Kind != api.Snapshot
			if c.Out != missed || c.Next != seq+1 {
				t.Fatalf("P19.4: behind %v: %v, but missed: %v", f, c, missed)
			}
			if !c.Out && !slices.Equal(c.Table, tables[seq]) {
				t.Fatalf("P19.4: behind %v: %v, not %v", f, c, tables[seq])
			}
			for range r.Intn(4) {
				old := frames[r.Intn(seq+1)]
				feeds(t, c, old, c)
			}
		}
	}
}

// TestArgumentsStay: what was handed in is as it was, and what stands in spare memory behind it; what was answered stays too.
func TestArgumentsStay(t *testing.T) {
	spare := api.Seen{Contact: "spare", Value: away}
	memory := append(slices.Clone(rows), spare, spare, spare)
	told := append(slices.Clone(rows), spare, spare)
	frames := []api.Frame{on(5, "al", here), on(5, "ann", away), on(5, "cid", away), off(5, "ann"), off(5, "zz"), sum(5, nil), sum(5, rows), snapshot(5, told[:2]), snapshot(5, nil)}
	var kept []api.Client
	for _, f := range frames {
		for _, c := range []api.Client{in(5, memory[:2]), out(5, memory[:2]), in(4, memory[:2])} {
			got := Feed(c, f)
			kept = append(kept, got, copied(got))
			for _, next := range []api.Frame{off(6, "ann"), on(6, "al", away), on(6, "dan", away), on(6, "bob", here), snapshot(6, other), sum(6, nil)} {
				Feed(got, next)
				Read(got, bytesOf(t, next))
			}
			Ask(got)
			May(got)
		}
	}
	if !slices.Equal(memory, append(slices.Clone(rows), spare, spare, spare)) || !slices.Equal(told, append(slices.Clone(rows), spare, spare)) {
		t.Errorf("R5: what was handed in is %v, %v now", memory, told)
	}
	for i := 0; i < len(kept); i += 2 {
		if !same(kept[i], kept[i+1]) {
			t.Errorf("R5: what was answered, %v, is %v now", kept[i+1], kept[i])
		}
	}
}

// TestAnswersHangOnArgumentsAlone: in whatever order they are asked.
func TestAnswersHangOnArgumentsAlone(t *testing.T) {
	for range 3 {
		feeds(t, New(), snapshot(0, rows), in(1, rows))
		feeds(t, in(1, rows), off(3, "ann"), out(4, rows))
		feeds(t, in(1, rows), off(1, "ann"), in(2, rows[1:]))
		feeds(t, in(1, rows), sum(1, nil), out(2, rows))
		if s, ok := Ask(out(5, rows)); s != crc.Seal("\x04\x05") || !ok {
			t.Errorf("R6: %q, %v", s, ok)
		}
		if got, err := Read(in(1, rows), "spoilt"); !same(got, in(1, rows)) || err != api.ErrSum {
			t.Errorf("R6: %v, %d", got, err)
		}
	}
}

func TestMuchIsDoneSoon(t *testing.T) {
	start := time.Now()
	c := Feed(New(), snapshot(0, table(32)))
	for seq := 1; seq < 40000; seq++ {
		f := on(seq, "abf", api.Value{Show: 1 + seq%4})
		if seq%7 == 0 {
			f = sum(seq, c.Table)
		}
		c = Feed(c, f)
	}
	if c.Out || c.Next != 40000 || len(c.Table) != 32 {
		t.Errorf("P19.2: %v", c)
	}
	big := slices.Repeat(rows, 200000)
	feeds(t, in(0, big), snapshot(0, rows), in(0, big))
	feeds(t, New(), snapshot(0, big), New())
	if got, err := Read(New(), strings.Repeat("a", 1<<20)); !same(got, New()) || err != api.ErrSum {
		t.Errorf("P19.3: %v, %d", got, err)
	}
	if took := time.Since(start); took > 20*time.Second {
		t.Errorf("R1: many frames took %v", took)
	}
}
