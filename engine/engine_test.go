package engine

import (
	"math"
	"math/rand"
	"runtime"
	"slices"
	"strings"
	"testing"
	"time"

	"rollcall/api"
	"rollcall/crc"
	"rollcall/digest"
	"rollcall/frame"
	"rollcall/ident"
	"rollcall/link"
	"rollcall/pace"
	"rollcall/queue"
	"rollcall/repair"
	"rollcall/rost"
	"rollcall/state"
	"rollcall/view"
)

const last = 1 << 40

var (
	here = api.Value{Show: api.Online, Since: 5}
	away = api.Value{Show: api.Away, Prio: -3, Since: 300, Status: "lunch"}
	busy = api.Value{Show: api.Busy, Prio: 2, Since: 7}
)

// good: a config that may be. narrow: one of little room, and few tokens.
var (
	good   = api.Config{Room: 4, Burst: 5, Rate: 2, Period: 10}
	narrow = api.Config{Room: 1, Burst: 1, Rate: 1, Period: 3}
)

// noNames: texts that are none.
var noNames = []string{"", "A", "Ann", "1a", "-a", "a_", "a b", "a\x00", "\u00e9", "\xff", strings.Repeat("a", 17)}

// noFrames: bytes of none, each with its error.
var noFrames = map[string]api.Errno{"": api.ErrCut, "abc": api.ErrCut, "abcd": api.ErrSum, "abcdefgh": api.ErrSum, crc.Seal(""): api.ErrForm, crc.Seal("\x05\x05"): api.ErrForm, crc.Seal("\x04\x05\x00"): api.ErrForm}

// refused: what a state of nothing refuses, each with its error.
var refused = map[api.Event]api.Errno{
	{}: api.ErrArg, {Kind: 9, User: "a", Other: "b"}: api.ErrArg, {Kind: -1, User: "a", Other: "b"}: api.ErrArg, {Kind: math.MaxInt}: api.ErrArg,
	{Kind: api.Subscribe, User: "a", Other: "a"}: api.ErrArg, {Kind: api.Subscribe, User: "a"}: api.ErrArg, {Kind: api.Subscribe, User: "A", Other: "b"}: api.ErrArg,
	{Kind: api.Subscribed, User: "a", Other: "b"}: api.ErrState, {Kind: api.Unsubscribe, User: "a", Other: "b"}: api.ErrState,
	{Kind: api.Unsubscribed, User: "a", Other: "b"}: api.ErrState, {Kind: api.Unblock, User: "a", Other: "b"}: api.ErrState,
	{Kind: api.Show, User: "a", Id: 4, Value: here}: api.ErrArg, {Kind: api.Show, User: "a"}: api.ErrArg, {Kind: api.Show, User: "A", Value: here}: api.ErrArg,
	{Kind: api.Leave, User: "a"}: api.ErrNone, {Kind: api.Leave, User: "A", Id: -1}: api.ErrNone,
}

// does: what user does to other.
func does(kind int, user, other string) api.Event {
	return api.Event{Kind: kind, User: user, Other: other}
}

// shows: user has that session, at v.
func shows(user string, id int, v api.Value) api.Event {
	return api.Event{Kind: api.Show, User: user, Id: id, Value: v}
}

// leaves: user has that session no more.
func leaves(user string, id int) api.Event {
	return api.Event{Kind: api.Leave, User: user, Id: id}
}

// befriends: what it takes that w sees c.
func befriends(w, c string) []api.Event {
	return []api.Event{does(api.Subscribe, w, c), does(api.Subscribed, c, w)}
}

// on: that contact is seen at v.
func on(contact string, v api.Value) api.Change {
	return api.Change{Contact: contact, On: true, Value: v}
}

// off: that contact is seen no more.
func off(contact string) api.Change {
	return api.Change{Contact: contact}
}

// same: whether the links a and b are, nil or not where there is no change.
func same(a, b api.Link) bool {
	return a.Seq == b.Seq && a.Bucket == b.Bucket && a.Snap == b.Snap && a.Digest == b.Digest &&
		a.Queue.Latched == b.Queue.Latched && slices.Equal(a.Queue.List, b.Queue.List)
}

// bytesOf: the bytes of f.
func bytesOf(t *testing.T, f api.Frame) string {
	t.Helper()
	s, err := frame.Encode(f)
	if err != api.OK {
		t.Fatalf("%v has no bytes: %d", f, err)
	}
	return s
}

// framesOf: the frames of which l has the bytes.
func framesOf(t *testing.T, l []string) []api.Frame {
	t.Helper()
	var frames []api.Frame
	for _, s := range l {
		f, err := frame.Decode(s)
		if err != api.OK {
			t.Fatalf("P21.4: %q is no frame: %d", s, err)
		}
		frames = append(frames, f)
	}
	return frames
}

// kept: what an engine is to have. It is reckoned anew at each event, for all who are attached, as the chapter's words say.
type kept struct {
	config api.Config
	now    int
	state  api.State
	links  map[string]api.Link
}

// do: what P21.2 asks of e.
func (k *kept) do(e api.Event) api.Errno {
	behind, err := state.Apply(k.state, e)
	if err != api.OK {
		return err
	}
	for w, l := range k.links {
		for _, x := range view.Between(k.state, behind, w) {
			l = link.Push(k.config, l, x)
		}
		k.links[w] = l
	}
	k.state = behind
	return api.OK
}

// drain: what P21.4 asks of Drain.
func (k *kept) drain(t *testing.T, w string) ([]string, api.Errno) {
	l, ok := k.links[w]
	if !ok {
		return nil, api.ErrNone
	}
	l, frames := link.Emit(k.config, l, view.Of(k.state, w), k.now)
	k.links[w] = l
	var all []string
	for _, f := range frames {
		all = append(all, bytesOf(t, f))
	}
	return all, api.OK
}

// read: what P21.4 asks of Read.
func (k *kept) read(w, s string) api.Errno {
	l, ok := k.links[w]
	if !ok {
		return api.ErrNone
	}
	l, err := repair.Read(l, s)
	if err == api.OK {
		k.links[w] = l
	}
	return err
}

// attach: what P21.3 asks of Attach.
func (k *kept) attach(w string) api.Errno {
	if !ident.Is(w) {
		return api.ErrArg
	}
	if _, ok := k.links[w]; ok {
		return api.ErrState
	}
	k.links[w], _ = link.New(k.config, k.now)
	return api.OK
}

// detach: what P21.3 asks of Detach.
func (k *kept) detach(w string) api.Errno {
	if _, ok := k.links[w]; !ok {
		return api.ErrNone
	}
	delete(k.links, w)
	return api.OK
}

// both: an engine, and what it is to have.
type both struct {
	*Engine
	kept kept
}

// begun: a new engine of c, in which these events were done, and then these were attached.
func begun(t *testing.T, c api.Config, l []api.Event, attached ...string) *both {
	t.Helper()
	g, err := New(c)
	if g == nil || err != api.OK {
		t.Fatalf("P21.1: New of %v: %v, %d", c, g, err)
	}
	b := &both{g, kept{config: c, links: map[string]api.Link{}}}
	for _, e := range l {
		b.do(t, e, api.OK)
	}
	for _, w := range attached {
		b.attach(t, w, api.OK)
	}
	return b
}

// check: whether the engine tells of itself what it is to.
func (b *both) check(t *testing.T) {
	t.Helper()
	if got := b.Now(); got != b.kept.now {
		t.Fatalf("P21.1: Now: %d, not %d", got, b.kept.now)
	}
	if got := b.State(); !state.Same(got, b.kept.state) {
		t.Fatalf("P21.1: State: %v, not %v", got, b.kept.state)
	}
	watchers := b.Watchers()
	if len(watchers) != len(b.kept.links) {
		t.Fatalf("P21.1: Watchers: %q, of %d", watchers, len(b.kept.links))
	}
	for i, w := range watchers {
		if i > 0 && !ident.Less(watchers[i-1], w) {
			t.Fatalf("P21.1: Watchers: %q", watchers)
		}
	}
	for w, want := range b.kept.links {
		if got, ok := b.Link(w); !ok || !same(got, want) {
			t.Fatalf("P21.1: Link of %q: %v, %v, not %v", w, got, ok, want)
		}
	}
	for _, w := range append([]string{"nobody"}, noNames...) {
		if got, ok := b.Link(w); ok || !same(got, api.Link{}) {
			t.Fatalf("P21.1: Link of %q: %v, %v", w, got, ok)
		}
	}
}

// do: that e is told that error, and that all is as it is to be then.
func (b *both) do(t *testing.T, e api.Event, want api.Errno) {
	t.Helper()
	if asked := b.kept.do(e); asked != want {
		t.Fatalf("%v: %d is asked for, not %d", e, asked, want)
	}
	if got := b.Do(e); got != want {
		t.Fatalf("P21.2: Do of %v: %d, not %d", e, got, want)
	}
	b.check(t)
}

// tick: count ticks.
func (b *both) tick(t *testing.T, count int) {
	t.Helper()
	for range count {
		b.kept.now++
		if err := b.Tick(); err != api.OK {
			t.Fatalf("P21.3: Tick to %d: %d", b.kept.now, err)
		}
		b.check(t)
	}
}

// attach: that Attach of w is told that error.
func (b *both) attach(t *testing.T, w string, want api.Errno) {
	t.Helper()
	if asked := b.kept.attach(w); asked != want {
		t.Fatalf("Attach of %q: %d is asked for, not %d", w, asked, want)
	}
	if got := b.Attach(w); got != want {
		t.Fatalf("P21.3: Attach of %q: %d, not %d", w, got, want)
	}
	b.check(t)
}

// detach: that Detach of w is told that error.
func (b *both) detach(t *testing.T, w string, want api.Errno) {
	t.Helper()
	if asked := b.kept.detach(w); asked != want {
		t.Fatalf("Detach of %q: %d is asked for, not %d", w, asked, want)
	}
	if got := b.Detach(w); got != want {
		t.Fatalf("P21.3: Detach of %q: %d, not %d", w, got, want)
	}
	b.check(t)
}

// drain: the frames that w is told, which are those that it is to be told.
func (b *both) drain(t *testing.T, w string) []api.Frame {
	t.Helper()
	want, asked := b.kept.drain(t, w)
	got, err := b.Drain(w)
	if !slices.Equal(got, want) || err != asked {
		t.Fatalf("P21.4: Drain of %q at %d: %v, %d; not %v, %d", w, b.kept.now, framesOf(t, got), err, framesOf(t, want), asked)
	}
	b.check(t)
	return framesOf(t, got)
}

// read: that what w asks by s is told that error.
func (b *both) read(t *testing.T, w, s string, want api.Errno) {
	t.Helper()
	if asked := b.kept.read(w, s); asked != want {
		t.Fatalf("Read of %q by %q: %d is asked for, not %d", s, w, asked, want)
	}
	if got := b.Read(w, s); got != want {
		t.Fatalf("P21.4: Read of %q by %q: %d, not %d", s, w, got, want)
	}
	b.check(t)
}

// waits: that these changes wait for w, and no others.
func (b *both) waits(t *testing.T, w string, want ...api.Change) {
	t.Helper()
	if l, ok := b.Link(w); !ok || l.Snap || !slices.Equal(l.Queue.List, want) {
		t.Errorf("P21.2: for %q waits %v, %v, not %v", w, l, ok, want)
	}
}

// told: that w is told this, and no more.
func (b *both) told(t *testing.T, w string, want ...api.Frame) {
	t.Helper()
	if got := b.drain(t, w); !slices.EqualFunc(got, want, frame.Same) {
		t.Errorf("P21.4: %q is told %v, not %v", w, got, want)
	}
}

// circle: bob and cid see ann, who is here; dan saw her, till she would not have it; eve sees nobody. All are attached, and were told all.
func circle(t *testing.T, c api.Config) *both {
	t.Helper()
	l := slices.Concat(befriends("bob", "ann"), befriends("cid", "ann"), befriends("dan", "ann"), []api.Event{shows("ann", 0, here), does(api.Unsubscribed, "ann", "dan")})
	b := begun(t, c, l, "ann", "bob", "cid", "dan", "eve")
	for _, w := range b.Watchers() {
		b.drain(t, w)
	}
	return b
}

func TestNew(t *testing.T) {
	for _, c := range []api.Config{good, narrow, {Room: 1, Burst: 1, Rate: 1, Period: 1}, {Room: 16, Burst: 64, Rate: 16, Period: 1000}} {
		begun(t, c, nil).check(t)
	}
	wrong := []api.Config{{}, {Room: 17, Burst: 5, Rate: 2, Period: 10}, {Room: 4, Burst: 65, Rate: 2, Period: 10}, {Room: 4, Burst: 5, Rate: 17, Period: 10}, {Room: 4, Burst: 5, Rate: 2, Period: 1001}}
	for _, n := range []int{0, -1, math.MinInt, math.MaxInt} {
		wrong = append(wrong, api.Config{Room: n, Burst: 5, Rate: 2, Period: 10}, api.Config{Room: 4, Burst: n, Rate: 2, Period: 10}, api.Config{Room: 4, Burst: 5, Rate: n, Period: 10}, api.Config{Room: 4, Burst: 5, Rate: 2, Period: n})
	}
	for _, c := range wrong {
		if g, err := New(c); g != nil || err != api.ErrArg || pace.May(c) {
			t.Errorf("P21.1: New of %v: %v, %d", c, g, err)
		}
	}
}

// TestTwoEngines: the one has nothing of what is done with the other one.
func TestTwoEngines(t *testing.T) {
	one, other := circle(t, good), begun(t, good, nil)
	other.check(t)
	other.attach(t, "bob", api.OK)
	other.do(t, shows("ann", 0, away), api.OK)
	other.tick(t, 2)
	one.check(t)
}

// TestNobodyAttached: what was done ahead is told whoever is attached later.
func TestNobodyAttached(t *testing.T) {
	b := begun(t, good, slices.Concat(befriends("bob", "ann"), []api.Event{
		shows("ann", 0, away), shows("ann", 1, here), leaves("ann", 0), does(api.Block, "ann", "bob"), does(api.Unblock, "ann", "bob"), does(api.Subscribe, "ann", "bob"), does(api.Unsubscribe, "ann", "bob"),
	}))
	if got := b.Watchers(); len(got) != 0 {
		t.Errorf("P21.1: Watchers: %q", got)
	}
	b.attach(t, "bob", api.OK)
	b.told(t, "bob", api.Frame{Kind: api.Snapshot, Table: []api.Seen{{Contact: "ann", Value: here}}})
}

// TestDoOfPresences: whoever sees the user is told, if its presence is another one; whoever saw it only before, or neither, is not.
func TestDoOfPresences(t *testing.T) {
	for _, x := range []struct {
		events []api.Event
		want   []api.Change
	}{
		{[]api.Event{shows("ann", 0, away)}, []api.Change{on("ann", away)}},
		{[]api.Event{shows("ann", 0, here)}, nil},
		// A session that is less prior, and shows less.
		{[]api.Event{shows("ann", 1, away)}, nil},
		{[]api.Event{shows("ann", 1, away), leaves("ann", 1)}, nil},
		// One that is more prior, and shows less: its Value, but the other one's Show.
		{[]api.Event{shows("ann", 3, busy)}, []api.Change{on("ann", api.Value{Show: api.Online, Prio: 2, Since: 7})}},
		{[]api.Event{shows("ann", 3, busy), leaves("ann", 3)}, []api.Change{on("ann", here)}},
		{[]api.Event{shows("ann", 3, busy), leaves("ann", 0)}, []api.Change{on("ann", busy)}},
		{[]api.Event{leaves("ann", 0)}, []api.Change{off("ann")}},
		{[]api.Event{leaves("ann", 0), shows("ann", 2, away)}, []api.Change{on("ann", away)}},
		// Of three shows ahead of the next frame the last one alone waits.
		{[]api.Event{shows("ann", 0, away), shows("ann", 0, busy), shows("ann", 0, away)}, []api.Change{on("ann", away)}},
		// Others' presences are not seen.
		{[]api.Event{shows("bob", 0, here), shows("dan", 0, here), shows("eve", 0, here), leaves("dan", 0)}, nil},
	} {
		b := circle(t, good)
		for _, e := range x.events {
			b.do(t, e, api.OK)
		}
		b.waits(t, "bob", x.want...)
		b.waits(t, "cid", x.want...)
		for _, w := range []string{"ann", "dan", "eve"} {
			b.waits(t, w)
		}
	}
}

// TestDoOfWhoSeesWhom: those alone are told whose sight of the other one has changed.
func TestDoOfWhoSeesWhom(t *testing.T) {
	for _, x := range []struct {
		events []api.Event
		waits  map[string][]api.Change
	}{
		{[]api.Event{does(api.Subscribe, "eve", "ann")}, nil},
		{befriends("eve", "ann"), map[string][]api.Change{"eve": {on("ann", here)}}},
		{befriends("dan", "ann"), map[string][]api.Change{"dan": {on("ann", here)}}},
		// Of one who has no session nothing is seen.
		{befriends("eve", "dan"), nil},
		{append(befriends("eve", "dan"), shows("dan", 1, away)), map[string][]api.Change{"eve": {on("dan", away)}}},
		{append([]api.Event{shows("dan", 1, away)}, befriends("eve", "dan")...), map[string][]api.Change{"eve": {on("dan", away)}}},
		{[]api.Event{does(api.Unsubscribe, "bob", "ann")}, map[string][]api.Change{"bob": {off("ann")}}},
		{[]api.Event{does(api.Unsubscribed, "ann", "bob")}, map[string][]api.Change{"bob": {off("ann")}}},
		{[]api.Event{does(api.Unsubscribed, "ann", "bob"), shows("ann", 0, away)}, map[string][]api.Change{"bob": {off("ann")}, "cid": {on("ann", away)}}},
		{[]api.Event{does(api.Block, "ann", "bob")}, map[string][]api.Change{"bob": {off("ann")}}},
		{[]api.Event{does(api.Block, "bob", "ann")}, map[string][]api.Change{"bob": {off("ann")}}},
		{[]api.Event{does(api.Block, "ann", "bob"), does(api.Block, "bob", "ann")}, map[string][]api.Change{"bob": {off("ann")}}},
		{[]api.Event{does(api.Block, "ann", "bob"), shows("ann", 0, away)}, map[string][]api.Change{"bob": {off("ann")}, "cid": {on("ann", away)}}},
		{[]api.Event{does(api.Block, "ann", "bob"), shows("ann", 0, away), does(api.Unblock, "ann", "bob")}, map[string][]api.Change{"bob": {on("ann", away)}, "cid": {on("ann", away)}}},
		{[]api.Event{does(api.Block, "ann", "bob"), does(api.Block, "bob", "ann"), does(api.Unblock, "ann", "bob")}, map[string][]api.Change{"bob": {off("ann")}}},
		{[]api.Event{does(api.Block, "ann", "eve"), does(api.Block, "eve", "bob")}, nil},
		// They see one another.
		{append(befriends("ann", "bob"), shows("bob", 0, busy)), map[string][]api.Change{"ann": {on("bob", busy)}}},
		{append(befriends("ann", "bob"), shows("bob", 0, busy), does(api.Block, "bob", "ann")), map[string][]api.Change{"ann": {off("bob")}, "bob": {off("ann")}}},
		{append(befriends("ann", "bob"), shows("bob", 0, busy), does(api.Unsubscribe, "bob", "ann")), map[string][]api.Change{"ann": {on("bob", busy)}, "bob": {off("ann")}}},
		{append(befriends("ann", "bob"), shows("bob", 0, busy), does(api.Unsubscribed, "bob", "ann")), map[string][]api.Change{"ann": {off("bob")}}},
	} {
		b := circle(t, good)
		for _, e := range x.events {
			b.do(t, e, api.OK)
		}
		for _, w := range b.Watchers() {
			b.waits(t, w, x.waits[w]...)
		}
	}
}

// TestDoThatIsRefused: nothing is changed by it, and nobody told.
func TestDoThatIsRefused(t *testing.T) {
	b := begun(t, good, nil, "a", "b")
	for e, want := range refused {
		b.do(t, e, want)
	}
	b = circle(t, good)
	for e, want := range map[api.Event]api.Errno{
		does(api.Subscribe, "bob", "ann"): api.ErrState, does(api.Unblock, "ann", "bob"): api.ErrState, does(api.Subscribed, "ann", "bob"): api.ErrState,
		does(api.Unsubscribed, "ann", "dan"): api.ErrState, leaves("ann", 1): api.ErrNone, leaves("bob", 0): api.ErrNone, leaves("ann", -1): api.ErrNone,
		shows("ann", 0, api.Value{}): api.ErrArg, shows("ann", 0, api.Value{Show: 5}): api.ErrArg, shows("ann", -1, away): api.ErrArg, does(9, "ann", "bob"): api.ErrArg, does(0, "ann", "bob"): api.ErrArg,
	} {
		b.do(t, e, want)
	}
	b.do(t, does(api.Block, "ann", "bob"), api.OK)
	b.do(t, does(api.Block, "ann", "bob"), api.ErrState)
	b.do(t, does(api.Subscribe, "ann", "bob"), api.ErrBlock)
	b.waits(t, "bob", off("ann"))
}

// TestDoOfFullLists: what has no room any more.
func TestDoOfFullLists(t *testing.T) {
	b := circle(t, good)
	for n := range 32 {
		want := api.OK
		if n == 31 {
			want = api.ErrFull
		}
		b.do(t, shows("u"+string(rune('a'+n/4)), n%4, away), want)
	}
	for n := range 17 {
		want := api.OK
		if n == 16 {
			want = api.ErrFull
		}
		b.do(t, does(api.Subscribe, "eve", "v"+string(rune('a'+n))), want)
	}
}

// TestRoom: more changes than there is room for are told by one Snapshot.
func TestRoom(t *testing.T) {
	names := []string{"a", "b", "c", "d", "e"}
	var l []api.Event
	for _, c := range names {
		l = append(append(l, befriends("w", c)...), shows(c, 0, here))
	}
	b := begun(t, good, l, "w")
	b.drain(t, "w")
	for n, c := range names {
		b.do(t, shows(c, 0, away), api.OK)
		got, _ := b.Link("w")
		if got.Snap != (n == 4) || got.Snap && len(got.Queue.List) > 0 || !got.Snap && len(got.Queue.List) != n+1 || got.Queue.Latched {
			t.Errorf("P21.2: behind %d changes, of room for 4: %v", n+1, got)
		}
	}
	b.do(t, leaves("a", 0), api.OK)
	var rows []api.Seen
	for _, c := range names[1:] {
		rows = append(rows, api.Seen{Contact: c, Value: away})
	}
	b.told(t, "w", api.Frame{Kind: api.Snapshot, Seq: 1, Table: rows})
	b.told(t, "w")
	b.do(t, leaves("c", 0), api.OK)
	b.told(t, "w", api.Frame{Kind: api.Delta, Seq: 2, Contact: "c"})
}

func TestTick(t *testing.T) {
	b := circle(t, good)
	b.do(t, shows("ann", 0, away), api.OK)
	b.tick(t, 25)
	for _, now := range []int{1<<31 - 2, 1<<32 - 1, last - 3} {
		b.now, b.kept.now = now, now
		b.tick(t, 2)
	}
	b.tick(t, 1)
	for range 3 {
		if err := b.Tick(); err != api.ErrArg || b.Now() != last {
			t.Errorf("P21.3: Tick at the last one: %d, %d", err, b.Now())
		}
		b.check(t)
	}
	// All else is done at the last tick too.
	b.attach(t, "fay", api.OK)
	b.told(t, "fay", api.Frame{Kind: api.Snapshot})
	b.told(t, "bob", api.Frame{Kind: api.Delta, Seq: 1, Contact: "ann", On: true, Value: away}, api.Frame{Kind: api.Digest, Seq: 2, Sum: digest.Sum([]api.Seen{{Contact: "ann", Value: away}})})
	b.do(t, leaves("ann", 0), api.OK)
	b.told(t, "bob", api.Frame{Kind: api.Delta, Seq: 3, Contact: "ann"})
}

func TestAttach(t *testing.T) {
	for _, c := range []api.Config{good, narrow} {
		b := begun(t, c, nil)
		for n, w := range []string{"a", "z9-", "ann", strings.Repeat("q", 16)} {
			b.tick(t, n)
			b.attach(t, w, api.OK)
			got, ok := b.Link(w)
			if want := (api.Link{Bucket: api.Bucket{Tokens: c.Burst, At: b.kept.now}, Snap: true, Digest: b.kept.now}); !ok || !same(got, want) {
				t.Errorf("P21.3: behind Attach of %q: %v, %v", w, got, ok)
			}
			b.tick(t, 1)
			b.drain(t, w)
			// Its link stays, as it is attached.
			b.attach(t, w, api.ErrState)
		}
		for _, w := range noNames {
			b.attach(t, w, api.ErrArg)
		}
	}
}

func TestDetach(t *testing.T) {
	b := circle(t, good)
	b.do(t, shows("ann", 0, away), api.OK)
	for _, w := range append([]string{"fay", "bo", "bobb"}, noNames...) {
		b.detach(t, w, api.ErrNone)
	}
	b.detach(t, "bob", api.OK)
	b.detach(t, "bob", api.ErrNone)
	if got := b.Watchers(); !slices.Equal(got, []string{"ann", "cid", "dan", "eve"}) {
		t.Errorf("P21.3: Watchers: %q", got)
	}
	// What is done meanwhile does not wait for it, and the others' links stay.
	b.do(t, shows("ann", 0, busy), api.OK)
	b.waits(t, "cid", on("ann", busy))
	b.tick(t, 3)
	b.attach(t, "bob", api.OK)
	b.told(t, "bob", api.Frame{Kind: api.Snapshot, Table: []api.Seen{{Contact: "ann", Value: busy}}})
	for _, w := range b.Watchers() {
		b.detach(t, w, api.OK)
	}
	b.do(t, shows("ann", 0, here), api.OK)
	if got := b.Watchers(); len(got) != 0 {
		t.Errorf("P21.3: Watchers: %q", got)
	}
}

func TestWatchers(t *testing.T) {
	want := []string{"a", "b", "z", "aa", "ab", "b1", "ann", "bob", "a-long-name", "yyyyyyyyyyyyyyyy"}
	r := rand.New(rand.NewSource(1))
	for range 50 {
		b := begun(t, good, nil)
		for _, at := range r.Perm(len(want)) {
			b.attach(t, want[at], api.OK)
		}
		if got := b.Watchers(); !slices.Equal(got, want) {
			t.Fatalf("P21.1: Watchers: %q", got)
		}
	}
}

func TestDrain(t *testing.T) {
	b := begun(t, good, append(befriends("bob", "ann"), shows("ann", 0, here)), "bob")
	rows := []api.Seen{{Contact: "ann", Value: here}}
	b.told(t, "bob", api.Frame{Kind: api.Snapshot, Table: rows})
	// Again at one tick: there is no more to tell, till something is.
	b.told(t, "bob")
	b.do(t, shows("ann", 0, away), api.OK)
	b.told(t, "bob", api.Frame{Kind: api.Delta, Seq: 1, Contact: "ann", On: true, Value: away})
	b.told(t, "bob")
	rows[0].Value = away
	for n := range 31 {
		b.tick(t, 1)
		if n%10 == 9 {
			b.told(t, "bob", api.Frame{Kind: api.Digest, Seq: 2 + n/10, Sum: digest.Sum(rows)})
		}
		b.told(t, "bob")
	}
	b.do(t, leaves("ann", 0), api.OK)
	b.told(t, "bob", api.Frame{Kind: api.Delta, Seq: 5, Contact: "ann"})
}

// TestDrainByTokens: what there is no token for waits.
func TestDrainByTokens(t *testing.T) {
	b := begun(t, narrow, append(befriends("bob", "ann"), shows("ann", 0, here)), "bob")
	b.told(t, "bob", api.Frame{Kind: api.Snapshot, Table: []api.Seen{{Contact: "ann", Value: here}}})
	b.do(t, shows("ann", 0, away), api.OK)
	b.told(t, "bob")
	b.told(t, "bob")
	b.waits(t, "bob", on("ann", away))
	b.do(t, shows("ann", 0, busy), api.OK)
	b.told(t, "bob")
	b.tick(t, 1)
	b.told(t, "bob", api.Frame{Kind: api.Delta, Seq: 1, Contact: "ann", On: true, Value: busy})
	// Behind three ticks there is a Digest to be told, but a change goes ahead of it.
	b.tick(t, 2)
	b.do(t, leaves("ann", 0), api.OK)
	b.told(t, "bob", api.Frame{Kind: api.Delta, Seq: 2, Contact: "ann"})
	b.told(t, "bob")
	b.tick(t, 1)
	b.told(t, "bob", api.Frame{Kind: api.Digest, Seq: 3, Sum: digest.Sum(nil)})
}

// TestDrainAtTheLastNumbers: a link tells no number behind the last one.
func TestDrainAtTheLastNumbers(t *testing.T) {
	b := circle(t, good)
	l := b.links["bob"]
	l.Seq = last - 1
	b.links["bob"], b.kept.links["bob"] = l, l
	b.do(t, shows("ann", 0, away), api.OK)
	b.told(t, "bob", api.Frame{Kind: api.Delta, Seq: last - 1, Contact: "ann", On: true, Value: away})
	b.do(t, leaves("ann", 0), api.OK)
	b.told(t, "bob")
	b.waits(t, "bob", off("ann"))
}

func TestDrainOfOneWhoIsNotAttached(t *testing.T) {
	b := circle(t, good)
	b.detach(t, "dan", api.OK)
	for _, w := range append([]string{"dan", "fay", "ANN"}, noNames...) {
		if got, err := b.Drain(w); len(got) != 0 || err != api.ErrNone {
			t.Errorf("P21.4: Drain of %q: %q, %d", w, got, err)
		}
		b.check(t)
	}
}

func TestRead(t *testing.T) {
	b := circle(t, good)
	b.do(t, shows("ann", 0, away), api.OK)
	rows := []api.Seen{{Contact: "ann", Value: away}}
	for n, seq := range []int{0, 1, 300, last} {
		b.read(t, "bob", bytesOf(t, api.Frame{Kind: api.Resync, Seq: seq}), api.OK)
		if l, _ := b.Link("bob"); !l.Snap || len(l.Queue.List) != 0 {
			t.Errorf("P21.4: behind a Resync: %v", l)
		}
		b.waits(t, "cid", on("ann", away))
		// Twice is as once.
		b.read(t, "bob", bytesOf(t, api.Frame{Kind: api.Resync, Seq: seq}), api.OK)
		b.told(t, "bob", api.Frame{Kind: api.Snapshot, Seq: 1 + n, Table: rows})
	}
	for _, f := range []api.Frame{
		{Kind: api.Delta, Seq: 1, Contact: "ann"}, {Kind: api.Delta, Seq: 1, Contact: "ann", On: true, Value: here}, {Kind: api.Digest, Seq: 1, Sum: 3}, {Kind: api.Digest},
		{Kind: api.Snapshot}, {Kind: api.Snapshot, Seq: 7, Table: rows},
	} {
		b.read(t, "cid", bytesOf(t, f), api.ErrForm)
	}
	for s, want := range noFrames {
		b.read(t, "cid", s, want)
	}
	b.waits(t, "cid", on("ann", away))
}

// TestReadOfOneWhoIsNotAttached: whatever it asks.
func TestReadOfOneWhoIsNotAttached(t *testing.T) {
	b := circle(t, good)
	b.detach(t, "dan", api.OK)
	asks := []string{bytesOf(t, api.Frame{Kind: api.Resync, Seq: 1}), bytesOf(t, api.Frame{Kind: api.Digest, Seq: 1}), "", "abcd", crc.Seal("")}
	for _, w := range append([]string{"dan", "fay"}, noNames...) {
		for _, s := range asks {
			b.read(t, w, s, api.ErrNone)
		}
	}
}

func TestNil(t *testing.T) {
	var g *Engine
	calls := map[string]api.Errno{
		"Tick": g.Tick(), "Attach": g.Attach("ann"), "Attach of no name": g.Attach(""), "Detach": g.Detach("ann"),
		"Read": g.Read("ann", bytesOf(t, api.Frame{Kind: api.Resync})), "Read of no frame": g.Read("ann", ""), "Do": g.Do(shows("ann", 0, here)), "Do of no event": g.Do(api.Event{}),
		"Do of one to leave": g.Do(leaves("ann", 0)), "Do of one to subscribe": g.Do(does(api.Subscribe, "ann", "bob")),
	}
	for name, err := range calls {
		if err != api.ErrArg {
			t.Errorf("P21: %s of a nil Engine: %d", name, err)
		}
	}
	if l, err := g.Drain("ann"); len(l) != 0 || err != api.ErrArg {
		t.Errorf("P21.4: Drain of a nil Engine: %q, %d", l, err)
	}
	if l, ok := g.Link("ann"); ok || !same(l, api.Link{}) {
		t.Errorf("P21.1: Link of a nil Engine: %v, %v", l, ok)
	}
	if g.Now() != 0 || len(g.Watchers()) != 0 || !state.Same(g.State(), api.State{}) {
		t.Errorf("P21.1: of a nil Engine: %d, %q, %v", g.Now(), g.Watchers(), g.State())
	}
}

// TestEngineThatNewDidNotMake: no call panics; as its config may not be, nobody is attached to it.
func TestEngineThatNewDidNotMake(t *testing.T) {
	g := &Engine{}
	for _, e := range append(befriends("bob", "ann"), shows("ann", 0, here), shows("ann", 1, away), leaves("ann", 1), does(api.Block, "ann", "bob")) {
		if err := g.Do(e); err != api.OK {
			t.Errorf("P21.2: Do of %v: %d", e, err)
		}
	}
	if len(g.State().Entries) != 2 || len(g.State().Sessions) != 1 {
		t.Errorf("P21.1: State: %v", g.State())
	}
	if g.Attach("bob") != api.ErrArg || g.Detach("bob") != api.ErrNone || g.Read("bob", "") != api.ErrNone || g.Tick() != api.OK || g.Now() != 1 || len(g.Watchers()) != 0 {
		t.Error("P21.3: an Engine that New did not make")
	}
	if l, err := g.Drain("bob"); len(l) != 0 || err != api.ErrNone {
		t.Errorf("P21.4: Drain: %q, %d", l, err)
	}
	if _, ok := g.Link("bob"); ok {
		t.Error("P21.1: Link of an Engine that New did not make")
	}
}

// TestExamples: those of the whole that are an engine's.
func TestExamples(t *testing.T) {
	b := begun(t, good, append(befriends("b", "a"), shows("a", 0, here)), "b")
	b.drain(t, "b")
	b.do(t, shows("a", 0, away), api.OK)
	b.told(t, "b", api.Frame{Kind: api.Delta, Seq: 1, Contact: "a", On: true, Value: away})
	for _, v := range []api.Value{here, away, busy} {
		b.do(t, shows("a", 0, v), api.OK)
	}
	b.told(t, "b", api.Frame{Kind: api.Delta, Seq: 2, Contact: "a", On: true, Value: busy})
	b.do(t, shows("a", 1, away), api.OK)
	b.told(t, "b")
	b.do(t, does(api.Block, "a", "b"), api.OK)
	b.told(t, "b", api.Frame{Kind: api.Delta, Seq: 3, Contact: "a"})
}

// users: few, so that they meet often.
var users = []string{"a", "b", "c", "ab", "ba", "eve"}

// randomEvent: one of few users, that is mostly one to be done.
func randomEvent(r *rand.Rand) api.Event {
	user, other := users[r.Intn(len(users))], users[r.Intn(len(users))]
	switch r.Intn(8) {
	case 0, 1:
		return does(api.Subscribe, user, other)
	case 2, 3:
		return does(api.Subscribed, user, other)
	case 4, 5:
		return shows(user, r.Intn(3), api.Value{Show: 1 + r.Intn(4), Prio: r.Intn(3) - 1, Since: r.Intn(3)})
	case 6:
		return leaves(user, r.Intn(3))
	}
	return does(r.Intn(11)-1, user, other)
}

// randomConfig: one of little room and few tokens.
func randomConfig(r *rand.Rand) api.Config {
	return api.Config{Room: 1 + r.Intn(4), Burst: 1 + r.Intn(4), Rate: 1 + r.Intn(2), Period: 1 + r.Intn(6)}
}

// step: one call of any kind, told by both.
func (b *both) step(t *testing.T, r *rand.Rand) {
	t.Helper()
	w := users[r.Intn(len(users))]
	switch r.Intn(12) {
	case 0:
		b.tick(t, 1)
	case 1:
		_, is := b.kept.links[w]
		b.attach(t, w, map[bool]api.Errno{true: api.ErrState}[is])
	case 2:
		if _, is := b.kept.links[w]; !is {
			b.detach(t, w, api.ErrNone)
		} else if r.Intn(4) == 0 {
			b.detach(t, w, api.OK)
		}
	case 3, 4:
		b.drain(t, w)
	case 5:
		if _, is := b.kept.links[w]; is {
			b.read(t, w, bytesOf(t, api.Frame{Kind: api.Resync, Seq: r.Intn(9)}), api.OK)
		}
	default:
		e := randomEvent(r)
		_, err := state.Apply(b.kept.state, e)
		b.do(t, e, err)
	}
}

// TestManyCalls: against what is reckoned anew for all at each of them.
func TestManyCalls(t *testing.T) {
	r := rand.New(rand.NewSource(2))
	for range 150 {
		b := begun(t, randomConfig(r), nil)
		for range 300 {
			b.step(t, r)
		}
	}
}

// took: what a watcher has that took all that it was told.
type took struct {
	table []api.Seen
	next  int
}

// take: what x has behind these frames, that are to follow one another.
func (x *took) take(t *testing.T, frames []api.Frame) {
	t.Helper()
	for _, f := range frames {
		if f.Seq != x.next {
			t.Fatalf("P21.4: Seq %d, not %d", f.Seq, x.next)
		}
		x.next++
		switch f.Kind {
		case api.Snapshot:
			x.table = f.Table
		case api.Delta:
			x.table = digest.Set(x.table, api.Change{Contact: f.Contact, On: f.On, Value: f.Value})
		case api.Digest:
		default:
			t.Fatalf("P21.4: %v is told", f)
		}
	}
}

// TestWhatWaitsIsWhatIsToBeSeen: P21.5, and P1, but for whoever is to be told all.
func TestWhatWaitsIsWhatIsToBeSeen(t *testing.T) {
	r := rand.New(rand.NewSource(3))
	waited := 0
	for range 200 {
		b := begun(t, randomConfig(r), nil)
		have := map[string]*took{}
		for range 300 {
			w := users[r.Intn(len(users))]
			switch r.Intn(10) {
			case 0:
				b.Tick()
			case 1:
				if b.Attach(w) == api.OK {
					have[w] = &took{}
				}
			case 2, 3:
				if l, err := b.Drain(w); err == api.OK {
					have[w].take(t, framesOf(t, l))
				}
			default:
				b.Do(randomEvent(r))
			}
			for w, x := range have {
				l, ok := b.Link(w)
				want := view.Of(b.State(), w)
				if !ok || l.Seq != x.next || !l.Snap && !slices.Equal(queue.Over(x.table, l.Queue), want) {
					t.Fatalf("P21.5: %q has %v, for it waits %v, and it is to see %v", w, x, l, want)
				}
				waited += len(l.Queue.List)
			}
		}
	}
	if waited == 0 {
		t.Error("P21.5: nothing waited")
	}
}

// TestAnEventIsToldThoseAloneWhoSee: P21.5.
func TestAnEventIsToldThoseAloneWhoSee(t *testing.T) {
	r := rand.New(rand.NewSource(4))
	turned := 0
	for range 100 {
		b := begun(t, api.Config{Room: 16, Burst: 64, Rate: 16, Period: 1000}, nil, users...)
		for range 200 {
			for _, w := range users {
				if r.Intn(2) == 0 {
					b.Drain(w)
				}
			}
			b.Tick()
			was, ahead := map[string]api.Link{}, b.State()
			for _, w := range users {
				was[w], _ = b.Link(w)
			}
			e := randomEvent(r)
			b.Do(e)
			behind := b.State()
			for _, w := range users {
				l, _ := b.Link(w)
				if same(l, was[w]) {
					continue
				}
				turned++
				sees := func(c string) bool { return rost.Sees(ahead.Entries, w, c) || rost.Sees(behind.Entries, w, c) }
				if !slices.ContainsFunc(state.Touches(e), sees) {
					t.Fatalf("P21.5: %v is told %q, who sees none whom it touches", e, w)
				}
				for _, x := range l.Queue.List {
					if old, ok := queue.Find(was[w].Queue, x.Contact); (!ok || old != x) && !slices.Contains(state.Touches(e), x.Contact) {
						t.Fatalf("P21.5: by %v %q is told of %v", e, w, x)
					}
				}
			}
		}
	}
	if turned == 0 {
		t.Error("P21.5: nobody was told")
	}
}

// TestSecrecy: what a watcher is told does not hang on those whom it does not see.
func TestSecrecy(t *testing.T) {
	r := rand.New(rand.NewSource(5))
	for range 100 {
		c := randomConfig(r)
		one := begun(t, c, slices.Concat(befriends("a", "b"), befriends("a", "c")), "a")
		other := begun(t, c, slices.Concat(befriends("a", "b"), befriends("a", "c")), "a")
		for range 200 {
			switch r.Intn(4) {
			case 0:
				one.Tick()
				other.Tick()
			case 1:
				x, _ := one.Drain("a")
				y, _ := other.Drain("a")
				if !slices.Equal(x, y) {
					t.Fatalf("P5: %v, and %v", framesOf(t, x), framesOf(t, y))
				}
			case 2:
				e := shows([]string{"b", "c"}[r.Intn(2)], r.Intn(2), api.Value{Show: 1 + r.Intn(4)})
				one.Do(e)
				other.Do(e)
			default:
				// What those do whom it does not see, and what all do with one of them.
				hidden := []string{"d", "e", "f"}
				user, friend := hidden[r.Intn(3)], []string{"d", "e", "f", "b", "c"}[r.Intn(5)]
				for _, e := range []api.Event{does(1+r.Intn(6), user, friend), does(1+r.Intn(6), friend, user), shows(user, r.Intn(4), here), leaves(user, r.Intn(4))} {
					one.Do(e)
				}
			}
		}
	}
}

// TestAnswersAreNewMemory: whoever changes what it was told changes nothing of the engine.
func TestAnswersAreNewMemory(t *testing.T) {
	b := circle(t, good)
	b.do(t, shows("ann", 0, away), api.OK)
	b.kept.state.Entries, b.kept.state.Sessions = slices.Clone(b.kept.state.Entries), slices.Clone(b.kept.state.Sessions)
	s := b.State()
	s.Entries[0], s.Sessions[0] = api.Entry{}, api.Session{}
	l, _ := b.Link("bob")
	l.Queue.List[0] = off("zed")
	l.Seq, l.Snap = 99, true
	names := b.Watchers()
	names[0] = "zed"
	b.check(t)
	told, _ := b.Drain("cid")
	told[0] = ""
	b.kept.drain(t, "cid")
	b.check(t)
	// And what was told stays as it was, whatever is done then.
	s, names = b.State(), b.Watchers()
	had := api.State{Entries: slices.Clone(s.Entries), Sessions: slices.Clone(s.Sessions)}
	l, _ = b.Link("bob")
	waited := slices.Clone(l.Queue.List)
	b.do(t, shows("ann", 0, busy), api.OK)
	b.do(t, does(api.Block, "ann", "bob"), api.OK)
	b.do(t, does(api.Unsubscribe, "cid", "ann"), api.OK)
	b.do(t, leaves("ann", 0), api.OK)
	b.detach(t, "ann", api.OK)
	if !state.Same(s, had) || !slices.Equal(l.Queue.List, waited) || names[0] != "ann" {
		t.Errorf("R5: %v, %v, %q", s, l, names)
	}
}

// TestLookingChangesNothing: of what is only told.
func TestLookingChangesNothing(t *testing.T) {
	b := circle(t, good)
	b.do(t, shows("ann", 0, away), api.OK)
	for range 3 {
		b.Now()
		b.State()
		b.Watchers()
		b.Link("bob")
		b.Link("nobody")
		b.check(t)
	}
}

// TestTheSameCallsTellTheSame: R6.
func TestTheSameCallsTellTheSame(t *testing.T) {
	told := func() []string {
		r := rand.New(rand.NewSource(6))
		b := begun(t, randomConfig(r), nil, users...)
		var all []string
		for range 500 {
			b.Do(randomEvent(r))
			b.Tick()
			l, _ := b.Drain(users[r.Intn(len(users))])
			all = append(all, l...)
		}
		return all
	}
	want := told()
	if len(want) == 0 {
		t.Error("P21.4: nothing was told")
	}
	for range 20 {
		if !slices.Equal(told(), want) {
			t.Fatal("R6: the same calls tell others")
		}
	}
}

// TestNobodyIsLeftBehind: whoever sends changes is done when the call answers.
func TestNobodyIsLeftBehind(t *testing.T) {
	b := circle(t, good)
	before := runtime.NumGoroutine()
	for n := range 100 {
		b.do(t, shows("ann", 0, api.Value{Show: 1 + n%4}), api.OK)
	}
	// One that has sent all may not yet be counted out.
	for range 1000 {
		if runtime.NumGoroutine() <= before {
			return
		}
		time.Sleep(time.Millisecond)
	}
	t.Errorf("%d goroutines, ahead of it %d", runtime.NumGoroutine(), before)
}

// TestMuchIsDoneSoon: of many who are attached an event looks at few.
func TestMuchIsDoneSoon(t *testing.T) {
	begin := time.Now()
	g, _ := New(good)
	name := func(n int) string {
		return "u" + string([]byte{'a' + byte(n/676), 'a' + byte(n/26%26), 'a' + byte(n%26)})
	}
	for n := range 4000 {
		g.Attach(name(n))
	}
	for n := range 300 {
		for _, e := range befriends(name(n+1), name(n)) {
			g.Do(e)
		}
	}
	for n := range 200 {
		g.Do(shows(name(n%30), 0, api.Value{Show: 1 + n%4, Since: n}))
		g.Drain(name(n % 30))
	}
	if took := time.Since(begin); took > 20*time.Second {
		t.Errorf("it took %v", took)
	}
}
