package play

import (
	"math"
	"math/rand"
	"slices"
	"strings"
	"testing"
	"time"

	"rollcall/api"
	"rollcall/client"
	"rollcall/crc"
	"rollcall/digest"
	"rollcall/engine"
	"rollcall/frame"
	"rollcall/link"
	"rollcall/pace"
	"rollcall/queue"
	"rollcall/repair"
	"rollcall/script"
	"rollcall/state"
	"rollcall/varint"
	"rollcall/view"
)

var (
	here = api.Value{Show: api.Online, Since: 5}
	away = api.Value{Show: api.Away, Prio: -3, Since: 300, Status: "lunch"}
	busy = api.Value{Show: api.Busy, Prio: 2, Since: 7}
)

// good: a config that may be. narrow: one of little room, and few tokens. wide: one of many tokens.
var (
	good   = api.Config{Room: 4, Burst: 5, Rate: 2, Period: 10}
	narrow = api.Config{Room: 1, Burst: 1, Rate: 1, Period: 3}
	wide   = api.Config{Room: 16, Burst: 64, Rate: 16, Period: 1000}
)

// wrongConfigs: such as may not be.
var wrongConfigs = []api.Config{
	{}, {Room: 0, Burst: 5, Rate: 2, Period: 10}, {Room: 17, Burst: 5, Rate: 2, Period: 10}, {Room: 4, Burst: 0, Rate: 2, Period: 10}, {Room: 4, Burst: 65, Rate: 2, Period: 10},
	{Room: 4, Burst: 5, Rate: 0, Period: 10}, {Room: 4, Burst: 5, Rate: 17, Period: 10}, {Room: 4, Burst: 5, Rate: 2, Period: 0}, {Room: 4, Burst: 5, Rate: 2, Period: 1001}, {Room: -1, Burst: -1, Rate: -1, Period: -1},
}

// noNames: texts that are none.
var noNames = []string{"", "A", "Ann", "1a", "-a", "a_", "a b", "a\x00", "\u00e9", "\xff", strings.Repeat("a", 17)}

// users: few, so that they meet often.
var users = []string{"a", "b", "c", "ab", "ann", "bob", "eve"}

// does: what user does to other.
func does(kind int, user, other string) api.Event {
	return api.Event{Kind: kind, User: user, Other: other}
}

// shows: user has that session, at v.
func shows(user string, id int, v api.Value) api.Event {
	return api.Event{Kind: api.Show, User: user, Id: id, Value: v}
}

// leaves: user has that session no more.
func leaves(user string, id int) api.Event {
	return api.Event{Kind: api.Leave, User: user, Id: id}
}

// befriends: what it takes that w sees c.
func befriends(w, c string) []api.Event {
	return []api.Event{does(api.Subscribe, w, c), does(api.Subscribed, c, w)}
}

// done: a step that does e.
func done(e api.Event) api.Step {
	return api.Step{Kind: api.Do, Event: e}
}

// of: a step of that kind, of who.
func of(kind int, who string) api.Step {
	return api.Step{Kind: kind, Who: who}
}

// at: a step of that kind, with the text number n on its way to who.
func at(kind int, who string, n int) api.Step {
	return api.Step{Kind: kind, Who: who, At: n}
}

// spoils: a step that changes that byte of the text number n on its way to who.
func spoils(who string, n, place, mask int) api.Step {
	return api.Step{Kind: api.Corrupt, Who: who, At: n, Mask: place*256 + mask}
}

// sameLink: whether the links a and b are, nil or not where there is no change.
func sameLink(a, b api.Link) bool {
	return a.Seq == b.Seq && a.Bucket == b.Bucket && a.Snap == b.Snap && a.Digest == b.Digest &&
		a.Queue.Latched == b.Queue.Latched && slices.Equal(a.Queue.List, b.Queue.List)
}

// text: one on its way, and whether it was corrupted.
type text struct {
	bytes  string
	spoilt bool
}

// side: what one who is attached is to have beside its link.
type side struct {
	client api.Client
	flight []text
}

// bytes: those of what is on its way.
func (x *side) bytes() []string {
	var l []string
	for _, s := range x.flight {
		l = append(l, s.bytes)
	}
	return l
}

// act: what P24.2 asks of what goes wrong, or well, on the way.
func (x *side) act(s api.Step) api.Errno {
	if s.At < 0 || s.At >= len(x.flight) {
		return api.ErrNone
	}
	this := x.flight[s.At]
	rest := append(slices.Clone(x.flight[:s.At]), x.flight[s.At+1:]...)
	switch s.Kind {
	case api.Deliver:
		x.flight = rest
		if f, err := frame.Decode(this.bytes); err == api.OK {
			x.client = client.Feed(x.client, f)
		}
	case api.Drop:
		x.flight = rest
	case api.Twice:
		if len(x.flight) >= 500 {
			return api.ErrFull
		}
		x.flight = append(x.flight, this)
	case api.Corrupt:
		if s.Mask < 0 || s.Mask%256 == 0 {
			return api.ErrArg
		}
		if this.spoilt {
			return api.ErrState
		}
		b := []byte(this.bytes)
		b[s.Mask/256%len(b)] ^= byte(s.Mask % 256)
		x.flight[s.At] = text{string(b), true}
	}
	return api.OK
}

// kept: what a world is to have, as the chapter's words say.
type kept struct {
	engine *engine.Engine
	sides  map[string]*side
}

// step: what P24.2 asks of s.
func (k *kept) step(s api.Step) api.Errno {
	x, ok := k.sides[s.Who]
	switch s.Kind {
	case api.Do:
		return k.engine.Do(s.Event)
	case api.Tick:
		return k.engine.Tick()
	case api.Attach:
		err := k.engine.Attach(s.Who)
		if err == api.OK {
			k.sides[s.Who] = &side{}
		}
		return err
	case api.Raw:
		l, err := script.Unbatch(s.Bytes)
		for _, e := range l {
			k.engine.Do(e)
		}
		return err
	case api.Drain, api.Deliver, api.Drop, api.Twice, api.Corrupt, api.Ask:
		if !ok {
			return api.ErrNone
		}
	default:
		return api.ErrArg
	}
	switch s.Kind {
	case api.Drain:
		if len(x.flight) >= 400 {
			return api.ErrFull
		}
		l, _ := k.engine.Drain(s.Who)
		for _, told := range l {
			x.flight = append(x.flight, text{told, false})
		}
	case api.Ask:
		if !x.client.Out {
			return api.ErrNone
		}
		ask, _ := frame.Encode(api.Frame{Kind: api.Resync, Seq: x.client.Next})
		return k.engine.Read(s.Who, ask)
	default:
		return x.act(s)
	}
	return api.OK
}

// calm: what P24.3 asks.
func (k *kept) calm(who string, rounds int) api.Errno {
	x, ok := k.sides[who]
	if !ok {
		return api.ErrNone
	}
	for n := 0; n < rounds && n < 3000; n++ {
		k.step(of(api.Tick, who))
		k.step(of(api.Drain, who))
		for len(x.flight) > 0 {
			k.step(of(api.Deliver, who))
		}
		k.step(of(api.Ask, who))
	}
	return api.OK
}

// both: a world, and what it is to have.
type both struct {
	*World
	kept kept
}

// begun: a new world of c, in which these events were done, and then these were attached.
func begun(t *testing.T, c api.Config, l []api.Event, attached ...string) *both {
	t.Helper()
	w, err := New(c)
	g, _ := engine.New(c)
	if w == nil || err != api.OK {
		t.Fatalf("P24.1: New of %v: %v, %d", c, w, err)
	}
	b := &both{w, kept{g, map[string]*side{}}}
	b.check(t)
	for _, e := range l {
		b.step(t, done(e), api.OK)
	}
	for _, who := range attached {
		b.step(t, of(api.Attach, who), api.OK)
	}
	return b
}

// check: whether the world tells of itself what it is to.
func (b *both) check(t *testing.T) {
	t.Helper()
	g := b.kept.engine
	if got := b.Now(); got != g.Now() {
		t.Fatalf("P24.1: Now: %d, not %d", got, g.Now())
	}
	if got := b.State(); !state.Same(got, g.State()) {
		t.Fatalf("P24.1: State: %v, not %v", got, g.State())
	}
	for _, who := range append(append([]string{"nobody"}, users...), noNames...) {
		x, attached := b.kept.sides[who]
		if !attached {
			x = &side{}
		}
		if got, ok := b.Client(who); ok != attached || !client.Same(got, x.client) {
			t.Fatalf("P24.1: Client of %q: %v, %v, not %v", who, got, ok, x.client)
		}
		want, _ := g.Link(who)
		if got, ok := b.Link(who); ok != attached || !sameLink(got, want) {
			t.Fatalf("P24.1: Link of %q: %v, %v, not %v", who, got, ok, want)
		}
		if got := b.Flight(who); !slices.Equal(got, x.bytes()) {
			t.Fatalf("P24.1: Flight of %q: %q, not %q", who, got, x.bytes())
		}
		if got := b.Quiet(who); got != (attached && link.Quiet(want) && len(x.flight) == 0) {
			t.Fatalf("P24.1: Quiet of %q: %v", who, got)
		}
		if got := b.View(who); !slices.Equal(got, view.Of(g.State(), who)) {
			t.Fatalf("P24.1: View of %q: %v", who, got)
		}
	}
}

// step: that s is told that error, and that all is as it is to be then.
func (b *both) step(t *testing.T, s api.Step, want api.Errno) {
	t.Helper()
	if asked := b.kept.step(s); asked != want {
		t.Fatalf("%v: %d is asked for, not %d", s, asked, want)
	}
	if got := b.Step(s); got != want {
		t.Fatalf("P24.2: Step %v: %d, not %d", s, got, want)
	}
	b.check(t)
}

// steps: that each of l is told OK.
func (b *both) steps(t *testing.T, l ...api.Step) {
	t.Helper()
	for _, s := range l {
		b.step(t, s, api.OK)
	}
}

// any: that s is told what it is to be told.
func (b *both) any(t *testing.T, s api.Step) api.Errno {
	t.Helper()
	want := b.kept.step(s)
	if got := b.Step(s); got != want {
		t.Fatalf("P24.2: Step %v: %d, not %d", s, got, want)
	}
	b.check(t)
	return want
}

// calm: that Calm is told that error, and that all is as it is to be then.
func (b *both) calm(t *testing.T, who string, rounds int, want api.Errno) {
	t.Helper()
	if asked := b.kept.calm(who, rounds); asked != want {
		t.Fatalf("Calm of %q: %d is asked for, not %d", who, asked, want)
	}
	if got := b.Calm(who, rounds); got != want {
		t.Fatalf("P24.3: Calm of %q, %d rounds: %d, not %d", who, rounds, got, want)
	}
	b.check(t)
}

// flying: so many texts on their way to who, who has one at least.
func (b *both) flying(t *testing.T, who string, count int) {
	t.Helper()
	for n := len(b.Flight(who)); n < count; n++ {
		if s := of(api.Twice, who); b.Step(s) != api.OK || b.kept.step(s) != api.OK {
			t.Fatalf("P24.2: there are not %d texts on their way", count)
		}
	}
	b.check(t)
}

// has: that the client of who has these rows, awaits that number, and is Out or not.
func (b *both) has(t *testing.T, who string, next int, out bool, rows ...api.Seen) {
	t.Helper()
	if got, ok := b.Client(who); !ok || !client.Same(got, api.Client{Table: rows, Next: next, Out: out}) {
		t.Errorf("P24.2: the client of %q is %v, %v; not %v, %d, %v", who, got, ok, rows, next, out)
	}
}

// told: the frames on their way to who.
func (b *both) told(t *testing.T, who string, want ...api.Frame) {
	t.Helper()
	var got []api.Frame
	for _, s := range b.Flight(who) {
		f, err := frame.Decode(s)
		if err != api.OK {
			t.Fatalf("P24.1: %q is on its way to %q: %d", s, who, err)
		}
		got = append(got, f)
	}
	if !slices.EqualFunc(got, want, frame.Same) {
		t.Errorf("P24.2: to %q there are %v on their way, not %v", who, got, want)
	}
}

// row: that contact at v.
func row(contact string, v api.Value) api.Seen {
	return api.Seen{Contact: contact, Value: v}
}

// delta: that contact is seen at v.
func delta(seq int, contact string, v api.Value) api.Frame {
	return api.Frame{Kind: api.Delta, Seq: seq, On: true, Contact: contact, Value: v}
}

// pairOf: ann, who is here, and bob, who sees her, is attached and was told so. All was delivered.
func pairOf(t *testing.T, c api.Config) *both {
	t.Helper()
	b := begun(t, c, append(befriends("bob", "ann"), shows("ann", 0, here)), "bob")
	b.steps(t, of(api.Drain, "bob"), at(api.Deliver, "bob", 0))
	return b
}

// outOf: as pairOf, but bob's client is Out, as a frame was dropped ahead of another one.
func outOf(t *testing.T, c api.Config) *both {
	t.Helper()
	b := pairOf(t, c)
	b.steps(t, done(shows("ann", 0, away)), of(api.Drain, "bob"), at(api.Drop, "bob", 0), done(shows("ann", 0, busy)), of(api.Drain, "bob"), at(api.Deliver, "bob", 0))
	b.has(t, "bob", 3, true, row("ann", here))
	return b
}

func TestNew(t *testing.T) {
	for _, c := range []api.Config{good, narrow, wide, {Room: 1, Burst: 1, Rate: 1, Period: 1}} {
		begun(t, c, nil)
	}
	for _, c := range wrongConfigs {
		if w, err := New(c); w != nil || err != api.ErrArg || pace.May(c) {
			t.Errorf("P24.1: New of %v: %v, %d", c, w, err)
		}
	}
}

// TestTwoWorlds: the one has nothing of what is done with the other one.
func TestTwoWorlds(t *testing.T) {
	one, other := pairOf(t, good), begun(t, good, nil)
	other.check(t)
	other.steps(t, of(api.Attach, "bob"), done(shows("ann", 0, away)), of(api.Tick, ""), of(api.Drain, "bob"))
	one.check(t)
}

// TestExample: the chapter's own.
func TestExample(t *testing.T) {
	b := begun(t, good, nil)
	b.steps(t, of(api.Attach, "a"))
	if b.Quiet("a") {
		t.Error("P24.1: Quiet ahead of the first Drain")
	}
	b.steps(t, of(api.Drain, "a"))
	if b.Quiet("a") {
		t.Error("P24.1: Quiet ahead of the first Deliver")
	}
	b.steps(t, of(api.Deliver, "a"))
	if !b.Quiet("a") {
		t.Error("P24.1: not Quiet")
	}
	b.has(t, "a", 1, false)
}

func TestDo(t *testing.T) {
	b := begun(t, good, nil)
	for _, who := range append([]string{"bob"}, noNames...) {
		// Who is not looked at.
		b.step(t, api.Step{Kind: api.Do, Who: who, At: -1, Mask: -1, Bytes: "zz", Event: shows("ann", 0, here)}, api.OK)
	}
	b.steps(t, of(api.Attach, "bob"), of(api.Drain, "bob"), of(api.Deliver, "bob"))
	for _, e := range befriends("bob", "ann") {
		b.step(t, done(e), api.OK)
	}
	b.steps(t, of(api.Drain, "bob"))
	b.told(t, "bob", delta(1, "ann", here))
	for e, want := range map[api.Event]api.Errno{
		{}: api.ErrArg, does(9, "a", "b"): api.ErrArg, does(api.Subscribe, "a", "a"): api.ErrArg, shows("a", 4, here): api.ErrArg, shows("a", 0, api.Value{}): api.ErrArg, does(api.Subscribe, "Ann", "bob"): api.ErrArg,
		does(api.Subscribe, "bob", "ann"): api.ErrState, does(api.Subscribed, "bob", "ann"): api.ErrState, does(api.Unblock, "bob", "ann"): api.ErrState, leaves("a", 0): api.ErrNone, leaves("ann", 3): api.ErrNone,
	} {
		b.step(t, done(e), want)
	}
	b.step(t, done(does(api.Block, "ann", "bob")), api.OK)
	b.step(t, done(does(api.Subscribe, "ann", "bob")), api.ErrBlock)
	for n := 1; n < 32; n++ {
		b.step(t, done(shows("u"+string(rune('a'+n/4)), n%4, away)), api.OK)
	}
	b.step(t, done(shows("z", 0, away)), api.ErrFull)
}

func TestTick(t *testing.T) {
	b := pairOf(t, good)
	for n, who := range append([]string{"bob", "eve"}, noNames...) {
		b.step(t, of(api.Tick, who), api.OK)
		if b.Now() != n+1 {
			t.Errorf("P24.2: tick %d", b.Now())
		}
	}
}

func TestAttach(t *testing.T) {
	b := begun(t, good, append(befriends("bob", "ann"), shows("ann", 0, here)))
	for _, who := range noNames {
		b.step(t, of(api.Attach, who), api.ErrArg)
	}
	b.steps(t, of(api.Tick, ""), of(api.Tick, ""), of(api.Attach, "bob"))
	b.has(t, "bob", 0, false)
	b.told(t, "bob")
	if l, ok := b.Link("bob"); !ok || !l.Snap || l.Digest != 2 {
		t.Errorf("P24.2: behind Attach: %v, %v", l, ok)
	}
	// Whoever is attached keeps what it has.
	b.step(t, of(api.Attach, "bob"), api.ErrState)
	b.steps(t, of(api.Drain, "bob"))
	b.step(t, of(api.Attach, "bob"), api.ErrState)
	b.steps(t, of(api.Deliver, "bob"))
	b.step(t, of(api.Attach, "bob"), api.ErrState)
	b.has(t, "bob", 1, false, row("ann", here))
	b.steps(t, of(api.Attach, "ann"), of(api.Attach, "eve"))
}

func TestDrain(t *testing.T) {
	b := begun(t, good, append(befriends("bob", "ann"), shows("ann", 0, here)), "bob", "eve")
	b.steps(t, of(api.Drain, "bob"))
	b.told(t, "bob", api.Frame{Kind: api.Snapshot, Table: []api.Seen{row("ann", here)}})
	// What is told goes behind all others, and nothing, if there is nothing to tell.
	b.steps(t, of(api.Drain, "bob"), done(shows("ann", 0, away)), of(api.Drain, "bob"), done(leaves("ann", 0)), of(api.Drain, "bob"))
	b.told(t, "bob", api.Frame{Kind: api.Snapshot, Table: []api.Seen{row("ann", here)}}, delta(1, "ann", away), api.Frame{Kind: api.Delta, Seq: 2, Contact: "ann"})
	b.told(t, "eve")
	b.steps(t, of(api.Drain, "eve"))
	b.told(t, "eve", api.Frame{Kind: api.Snapshot})
}

// TestDrainOfACrowd: with 399, 400 and more texts on their way.
func TestDrainOfACrowd(t *testing.T) {
	names := []string{"ca", "cb", "cc", "cd", "ce", "cf", "cg", "ch"}
	var l []api.Event
	for _, c := range names {
		l = append(l, befriends("bob", c)...)
	}
	b := begun(t, wide, l, "bob", "eve")
	b.steps(t, of(api.Drain, "bob"))
	for _, c := range names {
		b.step(t, done(shows(c, 0, here)), api.OK)
	}
	for _, count := range []int{400, 401, 463, 499, 500} {
		b.flying(t, "bob", count)
		b.step(t, of(api.Drain, "bob"), api.ErrFull)
	}
	// What is on its way to others is not counted.
	b.steps(t, of(api.Drain, "eve"))
	for n := 500; n > 400; n-- {
		b.step(t, of(api.Drain, "bob"), api.ErrFull)
		b.steps(t, at(api.Drop, "bob", n-1))
	}
	b.step(t, of(api.Drain, "bob"), api.ErrFull)
	b.steps(t, at(api.Deliver, "bob", 7), of(api.Drain, "bob"))
	if got := len(b.Flight("bob")); got != 399+8 {
		t.Errorf("P24.2: %d texts on their way", got)
	}
	b.step(t, of(api.Drain, "bob"), api.ErrFull)
	// At 399 there is room also for nothing.
	for range 8 {
		b.steps(t, at(api.Drop, "bob", 0))
	}
	b.steps(t, of(api.Drain, "bob"))
	if got := len(b.Flight("bob")); got != 399 {
		t.Errorf("P24.2: %d texts on their way", got)
	}
}

// TestNotAttached: what is of one who is attached is nothing of whoever is not.
func TestNotAttached(t *testing.T) {
	b := pairOf(t, good)
	b.steps(t, done(shows("ann", 0, away)), of(api.Drain, "bob"))
	for _, who := range append([]string{"ann", "nobody", "bo", "bobb"}, noNames...) {
		for _, kind := range []int{api.Drain, api.Deliver, api.Drop, api.Twice, api.Corrupt, api.Ask} {
			for _, n := range []int{0, -1, 1} {
				for _, mask := range []int{1, 0, -1} {
					b.step(t, api.Step{Kind: kind, Who: who, At: n, Mask: mask}, api.ErrNone)
				}
			}
		}
		for _, rounds := range []int{-1, 0, 1, 3001} {
			b.calm(t, who, rounds, api.ErrNone)
		}
		if got := b.Flight(who); len(got) != 0 || b.Quiet(who) {
			t.Errorf("P24.1: of %q, who is not attached: %q", who, got)
		}
	}
}

// TestNumbers: of a text at number -1, 0, the last one, and one behind it.
func TestNumbers(t *testing.T) {
	for kind := api.Deliver; kind <= api.Corrupt; kind++ {
		b := begun(t, good, append(befriends("bob", "ann"), shows("ann", 0, here)), "bob")
		// Nothing is on its way yet.
		for _, n := range []int{0, -1, 1} {
			b.step(t, api.Step{Kind: kind, Who: "bob", At: n, Mask: 1}, api.ErrNone)
		}
		b.steps(t, of(api.Drain, "bob"), done(shows("ann", 0, away)), of(api.Drain, "bob"), done(shows("ann", 0, busy)), of(api.Drain, "bob"))
		for _, n := range []int{-1, 3, 4, math.MaxInt, math.MinInt} {
			b.step(t, api.Step{Kind: kind, Who: "bob", At: n, Mask: 1}, api.ErrNone)
		}
		for _, n := range []int{2, 0} {
			b.step(t, api.Step{Kind: kind, Who: "bob", At: n, Mask: 1}, api.OK)
		}
	}
}

func TestDeliver(t *testing.T) {
	b := begun(t, good, append(befriends("bob", "ann"), shows("ann", 0, here)), "bob")
	b.steps(t, of(api.Drain, "bob"), done(shows("ann", 0, away)), of(api.Drain, "bob"), done(shows("ann", 0, busy)), of(api.Drain, "bob"))
	b.steps(t, at(api.Deliver, "bob", 0))
	b.has(t, "bob", 1, false, row("ann", here))
	b.told(t, "bob", delta(1, "ann", away), delta(2, "ann", busy))
	// In another order: the first one of the two comes late, and is not taken any more.
	b.steps(t, at(api.Deliver, "bob", 1))
	b.has(t, "bob", 3, true, row("ann", here))
	b.steps(t, at(api.Deliver, "bob", 0))
	b.has(t, "bob", 3, true, row("ann", here))
	b.told(t, "bob")
}

func TestDrop(t *testing.T) {
	b := outOf(t, good)
	b.told(t, "bob")
}

func TestTwice(t *testing.T) {
	b := pairOf(t, good)
	b.steps(t, done(shows("ann", 0, away)), of(api.Drain, "bob"), done(shows("ann", 0, busy)), of(api.Drain, "bob"), at(api.Twice, "bob", 0))
	b.told(t, "bob", delta(1, "ann", away), delta(2, "ann", busy), delta(1, "ann", away))
	b.steps(t, at(api.Deliver, "bob", 0), at(api.Deliver, "bob", 0))
	b.has(t, "bob", 3, false, row("ann", busy))
	b.steps(t, at(api.Deliver, "bob", 0))
	b.has(t, "bob", 3, false, row("ann", busy))
	if !b.Quiet("bob") {
		t.Error("P24.1: not Quiet")
	}
}

// TestTwiceOfACrowd: there are 500 at most.
func TestTwiceOfACrowd(t *testing.T) {
	b := pairOf(t, good)
	b.steps(t, done(shows("ann", 0, away)), of(api.Drain, "bob"))
	b.flying(t, "bob", 499)
	b.steps(t, at(api.Twice, "bob", 498))
	for _, n := range []int{0, 499} {
		b.step(t, at(api.Twice, "bob", n), api.ErrFull)
	}
	for _, n := range []int{-1, 500} {
		b.step(t, at(api.Twice, "bob", n), api.ErrNone)
	}
	b.steps(t, spoils("bob", 499, 3, 3), at(api.Drop, "bob", 0), at(api.Twice, "bob", 498))
	for _, n := range []int{498, 499} {
		b.step(t, spoils("bob", n, 3, 3), api.ErrState)
	}
}

// TestCorrupt: at each byte, by each mask; and what was corrupted is delivered, and is none.
func TestCorrupt(t *testing.T) {
	was := pairOf(t, good)
	was.steps(t, done(shows("ann", 0, away)), of(api.Drain, "bob"))
	want := was.Flight("bob")[0]
	for place := range 2*len(want) + 1 {
		for _, mask := range []int{1, 2, 128, 255} {
			b := pairOf(t, good)
			b.steps(t, done(shows("ann", 0, away)), of(api.Drain, "bob"), spoils("bob", 0, place, mask))
			spoilt := []byte(want)
			spoilt[place%len(want)] ^= byte(mask)
			if got := b.Flight("bob"); !slices.Equal(got, []string{string(spoilt)}) {
				t.Fatalf("P24.2: Corrupt at %d, mask %d: %q", place, mask, got)
			}
			b.steps(t, of(api.Deliver, "bob"))
			b.has(t, "bob", 1, false, row("ann", here))
		}
	}
}

// TestCorruptedIsLost: its client goes on as if that frame had been dropped, asks when it sees so, and is told all.
func TestCorruptedIsLost(t *testing.T) {
	b := pairOf(t, good)
	b.steps(t, done(shows("ann", 0, away)), of(api.Drain, "bob"), spoils("bob", 0, 3, 9), of(api.Deliver, "bob"))
	b.step(t, of(api.Ask, "bob"), api.ErrNone)
	b.steps(t, done(shows("ann", 0, busy)), of(api.Drain, "bob"), of(api.Deliver, "bob"))
	b.has(t, "bob", 3, true, row("ann", here))
	b.steps(t, of(api.Ask, "bob"), of(api.Drain, "bob"), of(api.Deliver, "bob"))
	b.has(t, "bob", 4, false, row("ann", busy))
}

// TestCorruptTwice: a text that was corrupted is not, again; a text that is there twice was, if the first one was.
func TestCorruptTwice(t *testing.T) {
	b := pairOf(t, good)
	b.steps(t, done(shows("ann", 0, away)), of(api.Drain, "bob"), spoils("bob", 0, 1, 3))
	for _, mask := range []int{3, 1, 255, 256 + 3, 512 + 7} {
		b.step(t, api.Step{Kind: api.Corrupt, Who: "bob", Mask: mask}, api.ErrState)
	}
	// It would not be OK else.
	for _, mask := range []int{0, 256, -1} {
		b.step(t, api.Step{Kind: api.Corrupt, Who: "bob", Mask: mask}, api.ErrArg)
		b.step(t, api.Step{Kind: api.Corrupt, Who: "bob", At: 1, Mask: mask}, api.ErrNone)
	}
	// There twice behind that: both were.
	b.steps(t, at(api.Twice, "bob", 0))
	b.step(t, spoils("bob", 1, 5, 3), api.ErrState)
	b.step(t, spoils("bob", 0, 5, 3), api.ErrState)
	// And so of the second one there twice.
	b.steps(t, at(api.Twice, "bob", 1), at(api.Drop, "bob", 0))
	b.step(t, spoils("bob", 1, 5, 3), api.ErrState)
	// What is told then was not.
	b.steps(t, done(shows("ann", 0, busy)), of(api.Drain, "bob"))
	b.step(t, spoils("bob", 1, 5, 3), api.ErrState)
	b.steps(t, spoils("bob", 2, 5, 3))
}

// TestCorruptOfOneThereTwice: each of the two goes its own way from there on.
func TestCorruptOfOneThereTwice(t *testing.T) {
	for _, first := range []int{0, 1} {
		b := pairOf(t, good)
		b.steps(t, done(shows("ann", 0, away)), of(api.Drain, "bob"), of(api.Twice, "bob"), spoils("bob", first, 1, 3))
		b.step(t, spoils("bob", first, 2, 5), api.ErrState)
		b.steps(t, spoils("bob", 1-first, 2, 5))
		b.step(t, spoils("bob", 1-first, 1, 3), api.ErrState)
	}
	// One of the two is whole, and is taken.
	for _, first := range []int{0, 1} {
		b := pairOf(t, good)
		b.steps(t, done(shows("ann", 0, away)), of(api.Drain, "bob"), of(api.Twice, "bob"), spoils("bob", first, 1, 3), of(api.Deliver, "bob"), of(api.Deliver, "bob"))
		b.has(t, "bob", 2, false, row("ann", away))
	}
}

// TestMarksGoWithTheirTexts: what was corrupted stays so, whatever goes ahead of it.
func TestMarksGoWithTheirTexts(t *testing.T) {
	for _, kind := range []int{api.Deliver, api.Drop} {
		for gone := range 4 {
			b := pairOf(t, wide)
			for _, v := range []api.Value{away, busy, here, away} {
				b.steps(t, done(shows("ann", 0, v)), of(api.Drain, "bob"))
			}
			b.steps(t, spoils("bob", 1, 0, 1), spoils("bob", 3, 0, 1), at(kind, "bob", gone))
			for n := range 3 {
				was := n
				if n >= gone {
					was++
				}
				want := map[bool]api.Errno{true: api.ErrState}[was == 1 || was == 3]
				b.step(t, spoils("bob", n, 4, 8), want)
			}
		}
	}
}

// TestMasks: each that may not be, of a text that was corrupted and of one that was not.
func TestMasks(t *testing.T) {
	b := pairOf(t, good)
	b.steps(t, done(shows("ann", 0, away)), of(api.Drain, "bob"), done(shows("ann", 0, here)), of(api.Drain, "bob"), spoils("bob", 1, 0, 1))
	for _, mask := range []int{0, 256, 512, 256 * 255, 1 << 32, math.MaxInt - 255, -1, -2, -255, -256, -257, math.MinInt, math.MinInt + 1} {
		for _, n := range []int{0, 1} {
			b.step(t, api.Step{Kind: api.Corrupt, Who: "bob", At: n, Mask: mask}, api.ErrArg)
		}
		for _, n := range []int{-1, 2} {
			b.step(t, api.Step{Kind: api.Corrupt, Who: "bob", At: n, Mask: mask}, api.ErrNone)
		}
	}
	for mask := 1; mask < 256; mask++ {
		b.step(t, api.Step{Kind: api.Corrupt, Who: "bob", At: 1, Mask: mask}, api.ErrState)
	}
	b.step(t, api.Step{Kind: api.Corrupt, Who: "bob", At: 0, Mask: math.MaxInt}, api.OK)
}

func TestAsk(t *testing.T) {
	b := outOf(t, good)
	b.attachAndTake(t, "eve")
	b.step(t, of(api.Ask, "eve"), api.ErrNone)
	b.steps(t, of(api.Ask, "bob"))
	if l, _ := b.Link("bob"); !l.Snap {
		t.Errorf("P24.2: behind Ask: %v", l)
	}
	// Till the Snapshot comes it asks on.
	b.steps(t, of(api.Ask, "bob"), of(api.Drain, "bob"), of(api.Ask, "bob"), of(api.Deliver, "bob"))
	b.has(t, "bob", 4, false, row("ann", busy))
	b.step(t, of(api.Ask, "bob"), api.ErrNone)
	b.step(t, of(api.Ask, "ann"), api.ErrNone)
	if l, _ := b.Link("bob"); !l.Snap {
		t.Errorf("P24.2: behind an Ask that came behind its answer: %v", l)
	}
}

// attachAndTake: who is attached, told all, and takes it.
func (b *both) attachAndTake(t *testing.T, who string) {
	t.Helper()
	b.steps(t, of(api.Attach, who), of(api.Drain, who), of(api.Deliver, who))
}

// batch: the bytes of l.
func batch(t *testing.T, l ...api.Event) string {
	t.Helper()
	s, err := script.Batch(l)
	if err != api.OK {
		t.Fatalf("P23.3: Batch of %v: %d", l, err)
	}
	return s
}

// rawOf: a step that does what these bytes tell.
func rawOf(s string) api.Step {
	return api.Step{Kind: api.Raw, Bytes: s}
}

func TestRaw(t *testing.T) {
	b := begun(t, good, nil, "bob")
	b.steps(t, of(api.Drain, "bob"), of(api.Deliver, "bob"))
	b.step(t, rawOf(""), api.OK)
	b.step(t, rawOf(batch(t, append(befriends("bob", "ann"), shows("ann", 0, here))...)), api.OK)
	if got := b.View("bob"); !slices.Equal(got, []api.Seen{row("ann", here)}) {
		t.Errorf("P24.2: behind a batch bob is to see %v", got)
	}
	b.steps(t, of(api.Drain, "bob"))
	b.told(t, "bob", delta(1, "ann", here))
	// Of some that are refused the others are done.
	b.step(t, rawOf(batch(t, leaves("ann", 3), shows("ann", 0, away), does(api.Subscribe, "bob", "ann"), does(api.Block, "bob", "bob"), shows("ann", 1, busy), leaves("eve", 0))), api.OK)
	if got := b.View("bob"); !slices.Equal(got, []api.Seen{row("ann", busy)}) {
		t.Errorf("P24.2: behind a batch bob is to see %v", got)
	}
	b.step(t, rawOf(batch(t, leaves("eve", 0))), api.OK)
	// Nothing else of a step is looked at.
	b.step(t, api.Step{Kind: api.Raw, Who: "A", At: -1, Mask: -1, Event: leaves("ann", 0), Bytes: batch(t, leaves("ann", 1))}, api.OK)
	if got := b.View("bob"); !slices.Equal(got, []api.Seen{row("ann", away)}) {
		t.Errorf("P24.2: behind a batch bob is to see %v", got)
	}
}

// TestRawOfNone: of bytes that are no batch nothing is done, not even what stands ahead.
func TestRawOfNone(t *testing.T) {
	b := pairOf(t, good)
	s := batch(t, shows("ann", 0, away), leaves("ann", 0))
	for n := range len(s) {
		if n != 0 && n != len(batch(t, shows("ann", 0, away))) {
			b.step(t, rawOf(s[:n]), api.ErrForm)
		}
		spoilt := []byte(s)
		spoilt[n] ^= 4
		b.step(t, rawOf(string(spoilt)), api.ErrForm)
	}
	many := ""
	for range 101 {
		many += batch(t, shows("ann", 0, away))
	}
	for _, x := range []string{"\x00", "zz", s + "\x00", s + s[:5], many, varint.Text(crc.Seal("\x08\x01a\x04"))} {
		b.step(t, rawOf(x), api.ErrForm)
	}
	b.told(t, "bob")
	if l, _ := b.Link("bob"); !queue.Empty(l.Queue) {
		t.Errorf("P24.2: %v", l)
	}
}

// TestRawIsDo: a batch does what its events do one by one.
func TestRawIsDo(t *testing.T) {
	r := rand.New(rand.NewSource(1))
	for range 100 {
		one, other := begun(t, good, nil, users...), begun(t, good, nil, users...)
		for range 10 {
			var l []api.Event
			for range r.Intn(20) {
				if e := randomEvent(r); script.May(e) {
					l = append(l, e)
				}
			}
			one.Step(rawOf(batch(t, l...)))
			for _, e := range l {
				other.Step(done(e))
			}
			same(t, one.World, other.World)
		}
	}
}

// same: that a and b tell the same of themselves.
func same(t *testing.T, a, b *World) {
	t.Helper()
	if a.Now() != b.Now() || !state.Same(a.State(), b.State()) {
		t.Fatalf("R6: at %d %v, at %d %v", a.Now(), a.State(), b.Now(), b.State())
	}
	for _, who := range append([]string{"nobody", ""}, users...) {
		x, isX := a.Client(who)
		y, isY := b.Client(who)
		l, _ := a.Link(who)
		m, _ := b.Link(who)
		if isX != isY || !client.Same(x, y) || !sameLink(l, m) || !slices.Equal(a.Flight(who), b.Flight(who)) || a.Quiet(who) != b.Quiet(who) || !slices.Equal(a.View(who), b.View(who)) {
			t.Fatalf("R6: of %q: %v and %v, %v and %v, %q and %q", who, x, y, l, m, a.Flight(who), b.Flight(who))
		}
	}
}

// TestErrorsChangeNothing: of each kind that tells one, but Tick, whose last tick is too far.
func TestErrorsChangeNothing(t *testing.T) {
	begin := func() *both {
		b := outOf(t, good)
		b.attachAndTake(t, "eve")
		b.steps(t, of(api.Ask, "bob"), done(shows("ann", 0, here)), of(api.Drain, "bob"), spoils("bob", 0, 1, 1), done(shows("ann", 0, away)), of(api.Drain, "bob"), of(api.Twice, "bob"), done(shows("ann", 0, busy)))
		return b
	}
	crowd := func() *both {
		b := begin()
		b.flying(t, "bob", 500)
		return b
	}
	spoilt := batch(t, shows("ann", 0, here)) + "z"
	for _, x := range []struct {
		begin func() *both
		steps []api.Step
		want  api.Errno
	}{
		{begin, []api.Step{done(api.Event{}), done(shows("ann", 0, api.Value{})), done(does(9, "ann", "bob")), of(api.Attach, ""), of(api.Attach, "Ann"), of(0, "bob"), of(11, "bob")}, api.ErrArg},
		{begin, []api.Step{{Kind: api.Corrupt, Who: "bob"}, {Kind: api.Corrupt, Who: "bob", At: 2, Mask: 256}, {Kind: api.Corrupt, Who: "bob", At: 1, Mask: -1}}, api.ErrArg},
		{begin, []api.Step{done(leaves("ann", 3)), of(api.Drain, "ann"), of(api.Drain, ""), of(api.Deliver, "ann"), of(api.Deliver, "eve"), of(api.Ask, "eve"), of(api.Ask, "ann")}, api.ErrNone},
		{begin, []api.Step{at(api.Deliver, "bob", 3), at(api.Deliver, "bob", -1), at(api.Drop, "bob", 3), at(api.Drop, "bob", -1), at(api.Twice, "bob", 3), at(api.Twice, "bob", -1), spoils("bob", 3, 1, 1), spoils("bob", -1, 1, 1)}, api.ErrNone},
		{begin, []api.Step{done(does(api.Subscribe, "bob", "ann")), of(api.Attach, "bob"), of(api.Attach, "eve"), spoils("bob", 0, 1, 1), spoils("bob", 0, 5, 9)}, api.ErrState},
		{begin, []api.Step{rawOf("z"), rawOf(spoilt), rawOf(spoilt[1:])}, api.ErrForm},
		{crowd, []api.Step{of(api.Drain, "bob"), at(api.Twice, "bob", 0), at(api.Twice, "bob", 499)}, api.ErrFull},
		{crowd, []api.Step{at(api.Twice, "bob", 500), at(api.Deliver, "bob", 500)}, api.ErrNone},
	} {
		b, untouched := x.begin(), x.begin()
		for _, s := range x.steps {
			if got := b.Step(s); got != x.want {
				t.Errorf("P24.2: Step %v: %d, not %d", s, got, x.want)
			}
			same(t, b.World, untouched.World)
		}
		// Nor is anything of it seen later on.
		for _, s := range []api.Step{at(api.Drop, "bob", 1), spoils("bob", 1, 1, 1), of(api.Ask, "bob"), of(api.Drain, "bob"), of(api.Deliver, "bob"), of(api.Drain, "eve")} {
			if one, other := b.Step(s), untouched.Step(s); one != other {
				t.Errorf("P24.2: Step %v: %d and %d", s, one, other)
			}
			same(t, b.World, untouched.World)
		}
	}
}

func TestOtherKinds(t *testing.T) {
	b := outOf(t, good)
	b.steps(t, of(api.Drain, "bob"), done(shows("ann", 0, here)), of(api.Drain, "bob"))
	for _, kind := range []int{0, -1, 11, 12, -10, 256 + 1, 1<<32 + 5, math.MaxInt, math.MinInt} {
		for _, who := range []string{"bob", "eve", ""} {
			b.step(t, api.Step{Kind: kind, Who: who, Mask: 1, Event: leaves("ann", 0), Bytes: batch(t, leaves("ann", 0))}, api.ErrArg)
		}
	}
}

func TestCalm(t *testing.T) {
	for _, c := range []api.Config{good, narrow, wide} {
		b := begun(t, c, append(befriends("bob", "ann"), shows("ann", 0, here)), "bob", "eve")
		for _, rounds := range []int{0, -1, math.MinInt} {
			b.calm(t, "bob", rounds, api.OK)
			if b.Now() != 0 || len(b.Flight("bob")) != 0 {
				t.Errorf("P24.3: %d rounds are some", rounds)
			}
		}
		b.calm(t, "bob", 1, api.OK)
		b.has(t, "bob", 1, false, row("ann", here))
		if b.Now() != 1 || !b.Quiet("bob") {
			t.Errorf("P24.3: behind one round it is %d", b.Now())
		}
		// Nobody else is told.
		b.has(t, "eve", 0, false)
		b.calm(t, "bob", 2999, api.OK)
		b.calm(t, "bob", 3000, api.OK)
		if b.Now() != 6000 {
			t.Errorf("P24.3: behind 6000 rounds it is %d", b.Now())
		}
	}
}

// TestCalmOfMany: there are 3000 rounds at most.
func TestCalmOfMany(t *testing.T) {
	for _, rounds := range []int{2999, 3000, 3001, 5000, math.MaxInt} {
		b := pairOf(t, good)
		b.calm(t, "bob", rounds, api.OK)
		if b.Now() != min(rounds, 3000) {
			t.Errorf("P24.3: behind %d rounds it is %d", rounds, b.Now())
		}
	}
}

// TestCalmOfTextsOnTheirWay: they are delivered ahead of what is told then, or, if they are a crowd, alone.
func TestCalmOfTextsOnTheirWay(t *testing.T) {
	b := pairOf(t, good)
	b.steps(t, done(shows("ann", 0, away)), of(api.Drain, "bob"), done(shows("ann", 0, busy)))
	b.calm(t, "bob", 1, api.OK)
	b.has(t, "bob", 3, false, row("ann", busy))
	for _, count := range []int{399, 400, 500} {
		b = pairOf(t, good)
		b.steps(t, done(shows("ann", 0, away)), of(api.Drain, "bob"))
		b.flying(t, "bob", count)
		b.steps(t, done(shows("ann", 0, busy)))
		b.calm(t, "bob", 1, api.OK)
		if count < 400 {
			b.has(t, "bob", 3, false, row("ann", busy))
		} else {
			b.has(t, "bob", 2, false, row("ann", away))
			b.calm(t, "bob", 1, api.OK)
			b.has(t, "bob", 3, false, row("ann", busy))
		}
		if !b.Quiet("bob") {
			t.Error("P24.3: not Quiet")
		}
	}
	// Among them such as were corrupted.
	b = pairOf(t, good)
	b.steps(t, done(shows("ann", 0, away)), of(api.Drain, "bob"), spoils("bob", 0, 1, 1), done(shows("ann", 0, busy)))
	b.calm(t, "bob", 1, api.OK)
	b.has(t, "bob", 3, true, row("ann", here))
	b.calm(t, "bob", 1, api.OK)
	b.has(t, "bob", 4, false, row("ann", busy))
}

// TestCalmOfOneThatIsOut: it asks in the first round, and has all behind the second one.
func TestCalmOfOneThatIsOut(t *testing.T) {
	b := outOf(t, good)
	b.calm(t, "bob", 1, api.OK)
	b.has(t, "bob", 3, true, row("ann", here))
	if l, _ := b.Link("bob"); !l.Snap {
		t.Errorf("P24.3: %v", l)
	}
	b.calm(t, "bob", 1, api.OK)
	b.has(t, "bob", 4, false, row("ann", busy))
	if !b.Quiet("bob") {
		t.Error("P24.3: not Quiet")
	}
}

// TestQuiet: of one who is attached, with something that waits, that is on its way, or neither.
func TestQuiet(t *testing.T) {
	b := pairOf(t, good)
	quiet := func(want bool) {
		t.Helper()
		if b.Quiet("bob") != want {
			t.Errorf("P24.1: Quiet: %v", !want)
		}
	}
	quiet(true)
	b.steps(t, done(shows("eve", 0, away)))
	quiet(true)
	b.steps(t, done(shows("ann", 0, away)))
	quiet(false)
	b.steps(t, of(api.Drain, "bob"))
	quiet(false)
	b.steps(t, of(api.Twice, "bob"), of(api.Drop, "bob"))
	quiet(false)
	// A client that missed something is not asked.
	b.steps(t, of(api.Drop, "bob"))
	quiet(true)
	b.steps(t, of(api.Attach, "eve"), of(api.Drain, "eve"), of(api.Deliver, "eve"))
	if !b.Quiet("eve") || b.Quiet("ann") || b.Quiet("") {
		t.Error("P24.1: Quiet")
	}
}

// TestView: of whoever it is, attached or not.
func TestView(t *testing.T) {
	b := begun(t, good, append(befriends("bob", "ann"), shows("ann", 0, here)))
	if got := b.View("bob"); !slices.Equal(got, []api.Seen{row("ann", here)}) {
		t.Errorf("P24.1: View: %v", got)
	}
	for _, who := range []string{"ann", "eve", "", "BOB"} {
		if got := b.View(who); len(got) != 0 {
			t.Errorf("P24.1: View of %q: %v", who, got)
		}
	}
}

func TestRun(t *testing.T) {
	for _, c := range []api.Config{good, narrow, wide} {
		for _, l := range [][]api.Step{nil, {}} {
			w, told := Run(c, l)
			if w == nil || len(told) != 0 {
				t.Fatalf("P24.4: Run of none: %v, %v", w, told)
			}
			same(t, w, begun(t, c, nil).World)
		}
	}
	l := []api.Step{of(api.Attach, "bob"), of(api.Attach, "bob"), {}, done(leaves("a", 0)), done(shows("bob", 0, here)), of(api.Drain, "eve"), of(api.Drain, "bob"), of(api.Ask, "bob"), of(api.Deliver, "bob"), of(api.Deliver, "bob"), of(api.Attach, "A"), rawOf("zz"), of(api.Tick, "")}
	want := []api.Errno{api.OK, api.ErrState, api.ErrArg, api.ErrNone, api.OK, api.ErrNone, api.OK, api.ErrNone, api.OK, api.ErrNone, api.ErrArg, api.ErrForm, api.OK}
	w, told := Run(good, l)
	if w == nil || !slices.Equal(told, want) {
		t.Errorf("P24.4: Run: %v, not %v", told, want)
	}
	if !w.Quiet("bob") || w.Now() != 1 || len(w.State().Sessions) != 1 {
		t.Errorf("P24.4: behind Run: %v, %d, %v", w.Quiet("bob"), w.Now(), w.State())
	}
	for _, c := range wrongConfigs {
		for _, steps := range [][]api.Step{nil, l[:1], l} {
			w, told := Run(c, steps)
			if w != nil || len(told) != len(steps) {
				t.Errorf("P24.4: Run of %v: %v, %v", c, w, told)
			}
			for _, err := range told {
				if err != api.ErrArg {
					t.Errorf("P24.4: Run of %v: %v", c, told)
				}
			}
		}
	}
}

// TestRunIsStep: P24.4, of any steps.
func TestRunIsStep(t *testing.T) {
	r := rand.New(rand.NewSource(2))
	for range 50 {
		c := randomConfig(r)
		b := begun(t, c, nil)
		var l []api.Step
		var want []api.Errno
		for range 200 {
			s := b.randomStep(r, true)
			l, want = append(l, s), append(want, b.any(t, s))
		}
		kept := slices.Clone(l)
		w, told := Run(c, l)
		if !slices.Equal(told, want) || !slices.Equal(l, kept) {
			t.Fatalf("P24.4: Run of %v: %v, not %v", l, told, want)
		}
		same(t, w, b.World)
	}
}

func TestNil(t *testing.T) {
	var w *World
	for kind := -1; kind <= 11; kind++ {
		for _, s := range []api.Step{{Kind: kind}, {Kind: kind, Who: "bob", Mask: 1, Event: shows("ann", 0, here), Bytes: batch(t, leaves("a", 0))}, {Kind: kind, Bytes: "zz"}} {
			if err := w.Step(s); err != api.ErrArg {
				t.Errorf("P24.2: Step %v of a nil World: %d", s, err)
			}
		}
	}
	for _, who := range []string{"bob", "", "A"} {
		for _, rounds := range []int{-1, 0, 1, 3000, math.MaxInt} {
			if err := w.Calm(who, rounds); err != api.ErrArg {
				t.Errorf("P24.3: Calm of a nil World: %d", err)
			}
		}
		if got, ok := w.Client(who); ok || !client.Same(got, api.Client{}) {
			t.Errorf("P24.1: Client of a nil World: %v, %v", got, ok)
		}
		if got, ok := w.Link(who); ok || !sameLink(got, api.Link{}) {
			t.Errorf("P24.1: Link of a nil World: %v, %v", got, ok)
		}
		if len(w.Flight(who)) != 0 || w.Quiet(who) || len(w.View(who)) != 0 {
			t.Errorf("P24.1: of a nil World: %q, %v, %v", w.Flight(who), w.Quiet(who), w.View(who))
		}
	}
	if !state.Same(w.State(), api.State{}) || w.Now() != 0 {
		t.Errorf("P24.1: of a nil World: %v, %d", w.State(), w.Now())
	}
}

// TestWorldThatNewDidNotMake: no call panics; what there is of an engine does what it does.
func TestWorldThatNewDidNotMake(t *testing.T) {
	g, _ := engine.New(good)
	g.Attach("ann")
	for _, w := range []*World{{}, {Engine: &engine.Engine{}}, {Engine: g}} {
		for kind := -1; kind <= 11; kind++ {
			for _, who := range []string{"ann", "bob", ""} {
				w.Step(api.Step{Kind: kind, Who: who, Mask: 1, Event: shows("ann", 0, here), Bytes: batch(t, leaves("a", 0))})
				w.Calm(who, 3)
				w.Client(who)
				w.Link(who)
				w.Flight(who)
				w.Quiet(who)
				w.View(who)
			}
		}
		w.State()
		w.Now()
	}
	w := &World{Engine: g}
	if x, ok := w.Client("ann"); !ok || !client.Same(x, client.New()) {
		t.Errorf("P24.1: Client: %v, %v", x, ok)
	}
	if got := (&World{}).Step(of(api.Attach, "ann")); got != api.ErrArg {
		t.Errorf("P24.2: Attach to no engine: %d", got)
	}
}

// TestPromotedCalls: whoever calls the engine's own calls of a world finds its clients in their places.
func TestPromotedCalls(t *testing.T) {
	w, _ := New(good)
	if w.Attach("bob") != api.OK || w.Attach("bob") != api.ErrState || w.Attach("B") != api.ErrArg {
		t.Error("P24.1: Attach")
	}
	w.Do(befriends("bob", "ann")[0])
	w.Do(befriends("bob", "ann")[1])
	w.Step(of(api.Drain, "bob"))
	w.Step(of(api.Deliver, "bob"))
	w.Do(shows("ann", 0, here))
	w.Step(of(api.Drain, "bob"))
	if x, ok := w.Client("bob"); !ok || x.Next != 1 || len(w.Flight("bob")) != 1 {
		t.Errorf("P24.1: Client: %v, %v", x, ok)
	}
	if got := w.Watchers(); !slices.Equal(got, []string{"bob"}) {
		t.Errorf("P24.1: Watchers: %q", got)
	}
	if w.Detach("bob") != api.OK {
		t.Error("P24.1: Detach")
	}
	if x, ok := w.Client("bob"); ok || !client.Same(x, api.Client{}) || len(w.Flight("bob")) != 0 || w.Quiet("bob") {
		t.Errorf("P24.1: of one who is attached no more: %v, %v, %q", x, ok, w.Flight("bob"))
	}
	for _, kind := range []int{api.Drain, api.Deliver, api.Drop, api.Twice, api.Corrupt, api.Ask} {
		if err := w.Step(api.Step{Kind: kind, Who: "bob", Mask: 1}); err != api.ErrNone {
			t.Errorf("P24.2: kind %d of one who is attached no more: %d", kind, err)
		}
	}
	if w.Calm("bob", 1) != api.ErrNone || w.Now() != 0 {
		t.Error("P24.3: Calm of one who is attached no more")
	}
	if w.Step(of(api.Attach, "bob")) != api.OK {
		t.Error("P24.2: Attach")
	}
	if x, ok := w.Client("bob"); !ok || !client.Same(x, client.New()) || len(w.Flight("bob")) != 0 {
		t.Errorf("P24.2: of one who is attached again: %v, %v, %q", x, ok, w.Flight("bob"))
	}
}

// TestExamplesOfTheWhole: of the document.
func TestExamplesOfTheWhole(t *testing.T) {
	b := begun(t, good, append(befriends("b", "a"), shows("a", 0, here)))
	for _, who := range users {
		b.told(t, who)
	}
	b.attachAndTake(t, "b")
	b.has(t, "b", 1, false, row("a", here))
	// a shows; and three times.
	b.steps(t, done(shows("a", 0, away)), of(api.Drain, "b"))
	b.told(t, "b", delta(1, "a", away))
	b.steps(t, of(api.Deliver, "b"), done(shows("a", 0, here)), done(shows("a", 0, away)), done(shows("a", 0, busy)), of(api.Drain, "b"))
	b.told(t, "b", delta(2, "a", busy))
	// It comes twice.
	b.steps(t, of(api.Twice, "b"), of(api.Deliver, "b"), of(api.Deliver, "b"))
	b.has(t, "b", 3, false, row("a", busy))
	// A session that is less prior, and shows less.
	b.steps(t, done(shows("a", 1, away)), of(api.Drain, "b"))
	b.told(t, "b")
	// The last Delta is lost: the next Digest's number tells.
	b.steps(t, done(shows("a", 0, here)), of(api.Drain, "b"), of(api.Drop, "b"))
	b.has(t, "b", 3, false, row("a", busy))
	for range 9 {
		b.steps(t, of(api.Tick, ""), of(api.Drain, "b"))
	}
	b.told(t, "b")
	b.steps(t, of(api.Tick, ""), of(api.Drain, "b"), of(api.Deliver, "b"))
	b.has(t, "b", 5, true, row("a", busy))
	b.steps(t, of(api.Ask, "b"), of(api.Drain, "b"), of(api.Deliver, "b"))
	b.has(t, "b", 6, false, row("a", here))
	// A byte is spoilt: the frame is none.
	b.steps(t, done(shows("a", 0, busy)), of(api.Drain, "b"), spoils("b", 0, 2, 1), of(api.Deliver, "b"))
	b.has(t, "b", 6, false, row("a", here))
	// a blocks b.
	b.steps(t, done(does(api.Block, "a", "b")), of(api.Drain, "b"))
	b.told(t, "b", api.Frame{Kind: api.Delta, Seq: 7, Contact: "a"})
}

// randomEvent: one of few users, that is mostly one to be done.
func randomEvent(r *rand.Rand) api.Event {
	user, other := users[r.Intn(len(users))], users[r.Intn(len(users))]
	switch r.Intn(8) {
	case 0, 1:
		return does(api.Subscribe, user, other)
	case 2, 3:
		return does(api.Subscribed, user, other)
	case 4, 5:
		return shows(user, r.Intn(3), api.Value{Show: 1 + r.Intn(4), Prio: r.Intn(3) - 1, Since: r.Intn(3)})
	case 6:
		return leaves(user, r.Intn(3))
	}
	return does(r.Intn(11)-1, user, other)
}

// randomConfig: one of little room and few tokens.
func randomConfig(r *rand.Rand) api.Config {
	return api.Config{Room: 1 + r.Intn(4), Burst: 1 + r.Intn(4), Rate: 1 + r.Intn(2), Period: 1 + r.Intn(6)}
}

// randomStep: one of any kind; but for what goes wrong on the way, if nothing is to.
func (b *both) randomStep(r *rand.Rand, wrong bool) api.Step {
	who := users[r.Intn(len(users))]
	n := 0
	if wrong {
		n = r.Intn(len(b.kept.flight(who))+2) - 1
	}
	switch r.Intn(16) {
	case 0:
		return of(api.Tick, who)
	case 1:
		return of(api.Attach, who)
	case 2, 3, 4:
		return of(api.Drain, who)
	case 5, 6, 7:
		return at(api.Deliver, who, n)
	case 8, 9:
		if wrong {
			return api.Step{Kind: api.Drop + r.Intn(3), Who: who, At: n, Mask: r.Intn(20000)}
		}
	case 10:
		return of(api.Ask, who)
	case 11:
		var l []api.Event
		for range r.Intn(4) {
			if e := randomEvent(r); script.May(e) {
				l = append(l, e)
			}
		}
		s, _ := script.Batch(l)
		if r.Intn(8) == 0 {
			s += "z"
		}
		return rawOf(s)
	}
	if r.Intn(50) == 0 {
		return of([]int{0, -1, 11, math.MaxInt}[r.Intn(4)], who)
	}
	return done(randomEvent(r))
}

// flight: what is on its way to who.
func (k *kept) flight(who string) []text {
	x, ok := k.sides[who]
	if !ok {
		return nil
	}
	return x.flight
}

// TestManySteps: against what the chapter's words say of each of them.
func TestManySteps(t *testing.T) {
	r := rand.New(rand.NewSource(3))
	count := map[[2]int]int{}
	for range 60 {
		b := begun(t, randomConfig(r), nil)
		for range 300 {
			s := b.randomStep(r, true)
			count[[2]int{s.Kind, int(b.any(t, s))}]++
			if r.Intn(50) == 0 {
				who := users[r.Intn(len(users))]
				_, ok := b.kept.sides[who]
				b.calm(t, who, r.Intn(4), map[bool]api.Errno{false: api.ErrNone}[ok])
			}
		}
	}
	for kind := api.Do; kind <= api.Raw; kind++ {
		if count[[2]int{kind, int(api.OK)}] == 0 {
			t.Errorf("P24.2: no step of kind %d was done", kind)
		}
	}
}

// seenOnce: what each who is attached was to see, since the beginning, by its contacts.
type seenOnce map[string]map[api.Seen]bool

// note: what all are to see now.
func (x seenOnce) note(w *World) {
	for _, who := range users {
		if x[who] == nil {
			x[who] = map[api.Seen]bool{}
		}
		for _, s := range w.View(who) {
			x[who][s] = true
		}
	}
}

// perfect: of each who is attached the tables of one who misses nothing, each at the number that it awaits then.
type perfect map[string]map[int][]api.Seen

// note: what a Drain told who since its flight was of these texts.
func (x perfect) note(t *testing.T, w *World, who string, was []string) {
	t.Helper()
	if x[who] == nil {
		x[who] = map[int][]api.Seen{0: nil}
	}
	for _, s := range w.Flight(who)[len(was):] {
		f, err := frame.Decode(s)
		if err != api.OK {
			t.Fatalf("P24.2: %q is told", s)
		}
		table := x[who][f.Seq]
		switch f.Kind {
		case api.Snapshot:
			table = f.Table
		case api.Delta:
			table = digest.Set(table, api.Change{Contact: f.Contact, On: f.On, Value: f.Value})
		}
		x[who][f.Seq+1] = table
	}
}

// TestWithoutAnythingWrong: P24.5, and P1: whoever is quiet has its view, and whoever is not has it with what waits for it.
func TestWithoutAnythingWrong(t *testing.T) {
	r := rand.New(rand.NewSource(4))
	quiet, waited := 0, 0
	for range 60 {
		b := begun(t, randomConfig(r), nil)
		for range 400 {
			s := b.randomStep(r, false)
			b.Step(s)
			b.kept.step(s)
			for _, who := range users {
				x, ok := b.Client(who)
				if !ok {
					continue
				}
				l, _ := b.Link(who)
				if x.Out {
					t.Fatalf("P24.5: %q is Out: %v", who, x)
				}
				if b.Quiet(who) {
					quiet++
					if !slices.Equal(x.Table, b.View(who)) || x.Next != l.Seq {
						t.Fatalf("P24.5: %q is quiet, has %v, and is to see %v", who, x, b.View(who))
					}
				} else if !l.Snap && len(b.Flight(who)) == 0 {
					waited++
					if got := queue.Over(x.Table, l.Queue); !slices.Equal(got, b.View(who)) {
						t.Fatalf("P1: %q has %v, for it waits %v, and it is to see %v", who, x, l, b.View(who))
					}
				}
			}
		}
	}
	if quiet == 0 || waited == 0 {
		t.Errorf("P24.5: %d quiet, %d waited for", quiet, waited)
	}
}

// TestWhateverGoesWrong: P24.5, and P2: whoever is not Out has in each row what once was to be seen, namely what one has who missed nothing; and it never goes back.
func TestWhateverGoesWrong(t *testing.T) {
	r := rand.New(rand.NewSource(5))
	rows, outs := 0, 0
	for range 100 {
		b := begun(t, randomConfig(r), nil)
		once, tables, nexts := seenOnce{}, perfect{}, map[string]int{}
		for range 400 {
			s := b.randomStep(r, true)
			was := b.Flight(s.Who)
			err := b.Step(s)
			b.kept.step(s)
			once.note(b.World)
			if s.Kind == api.Drain && err == api.OK {
				tables.note(t, b.World, s.Who, was)
			}
			for _, who := range users {
				x, ok := b.Client(who)
				if !ok {
					continue
				}
				if x.Next < nexts[who] {
					t.Fatalf("P24.5: %q goes back to %d", who, x.Next)
				}
				nexts[who] = x.Next
				if x.Out {
					outs++
					continue
				}
				if !slices.Equal(x.Table, tables[who][x.Next]) {
					t.Fatalf("P24.5: %q has %v, and one who missed nothing %v", who, x, tables[who][x.Next])
				}
				for _, s := range x.Table {
					rows++
					if !once[who][s] {
						t.Fatalf("P24.5: %q has %v, which was never to be seen", who, s)
					}
				}
			}
		}
	}
	if rows == 0 || outs == 0 {
		t.Errorf("P24.5: %d rows, %d times Out", rows, outs)
	}
}

// TestLeftAlone: P24.5, and P3: whatever went wrong, in as many rounds as repair.Bound tells each sees all, and keeps it.
func TestLeftAlone(t *testing.T) {
	r := rand.New(rand.NewSource(6))
	behind := 0
	for n := range 150 {
		c := randomConfig(r)
		if n%5 == 0 {
			c = api.Config{Room: 1 + r.Intn(16), Burst: 1 + r.Intn(64), Rate: 1 + r.Intn(16), Period: 1 + r.Intn(40)}
		}
		b := begun(t, c, nil)
		for range 50 + r.Intn(300) {
			s := b.randomStep(r, true)
			b.Step(s)
			b.kept.step(s)
		}
		for _, who := range users {
			x, ok := b.Client(who)
			if !ok {
				continue
			}
			if x.Out || !slices.Equal(x.Table, b.View(who)) {
				behind++
			}
			b.Calm(who, repair.Bound(c))
			b.sees(t, who)
			for range 2 * c.Period {
				b.Calm(who, 1)
				b.sees(t, who)
			}
		}
	}
	if behind == 0 {
		t.Error("P24.5: nobody was left alone who did not see all")
	}
}

// sees: that who sees all that it is to see, and nothing waits.
func (b *both) sees(t *testing.T, who string) {
	t.Helper()
	x, _ := b.Client(who)
	l, _ := b.Link(who)
	if !repair.Synced(repair.Side{Link: l, Client: x}, b.View(who)) || !b.Quiet(who) {
		t.Fatalf("P24.5: %q has %v, is told by %v, and is to see %v", who, x, l, b.View(who))
	}
}

// TestLeftAloneInACrowd: with so much on its way that nothing is told in the first round.
func TestLeftAloneInACrowd(t *testing.T) {
	for _, c := range []api.Config{good, narrow, wide, {Room: 1, Burst: 1, Rate: 1, Period: 1}} {
		for _, lost := range []bool{false, true} {
			b := pairOf(t, c)
			b.steps(t, of(api.Tick, ""), done(shows("ann", 0, away)), of(api.Drain, "bob"))
			b.flying(t, "bob", 450)
			b.steps(t, of(api.Tick, ""), done(shows("ann", 0, busy)))
			if lost {
				for n := range 450 {
					b.steps(t, spoils("bob", n, n, 1+n%255))
				}
			}
			b.calm(t, "bob", repair.Bound(c), api.OK)
			b.sees(t, "bob")
		}
	}
}

// TestNobodyIsToldOfWhomItIsNotToSee: P24.5, and P5: of each frame that is told, at the time.
func TestNobodyIsToldOfWhomItIsNotToSee(t *testing.T) {
	r := rand.New(rand.NewSource(7))
	deltas, offs, snaps := 0, 0, 0
	for range 100 {
		b := begun(t, randomConfig(r), nil)
		once := seenOnce{}
		for range 400 {
			s := b.randomStep(r, true)
			was := b.Flight(s.Who)
			err := b.Step(s)
			b.kept.step(s)
			once.note(b.World)
			if s.Kind != api.Drain || err != api.OK {
				continue
			}
			rows := b.View(s.Who)
			for _, told := range b.Flight(s.Who)[len(was):] {
				f, _ := frame.Decode(told)
				switch {
				case f.Kind == api.Snapshot:
					snaps++
					if !slices.Equal(f.Table, rows) {
						t.Fatalf("P24.5: %q is told %v, and is to see %v", s.Who, f, rows)
					}
				case f.Kind == api.Delta && f.On:
					deltas++
					if !slices.Contains(rows, row(f.Contact, f.Value)) {
						t.Fatalf("P24.5: %q is told %v, and is to see %v", s.Who, f, rows)
					}
				case f.Kind == api.Delta:
					offs++
					saw := false
					for x := range once[s.Who] {
						saw = saw || x.Contact == f.Contact
					}
					if _, sees := digest.Get(rows, f.Contact); sees || !saw {
						t.Fatalf("P24.5: %q is told %v, and is to see %v", s.Who, f, rows)
					}
				case f.Kind != api.Digest || f.Sum != digest.Sum(rows):
					t.Fatalf("P24.5: %q is told %v, and is to see %v", s.Who, f, rows)
				}
			}
		}
	}
	if deltas == 0 || offs == 0 || snaps == 0 {
		t.Errorf("P24.5: %d, %d and %d were told", deltas, offs, snaps)
	}
}

// TestSecrecy: P5: what a watcher is told, and has, does not hang on those whom it does not see.
func TestSecrecy(t *testing.T) {
	r := rand.New(rand.NewSource(8))
	for range 60 {
		c := randomConfig(r)
		l := slices.Concat(befriends("a", "b"), befriends("a", "c"))
		one, other := begun(t, c, l, "a"), begun(t, c, l, "a")
		for range 300 {
			s := of(api.Drain, "a")
			switch r.Intn(8) {
			case 0:
				s = of(api.Tick, "")
			case 1:
				s = done(shows([]string{"b", "c"}[r.Intn(2)], r.Intn(2), api.Value{Show: 1 + r.Intn(4)}))
			case 2, 3:
				s = api.Step{Kind: api.Deliver + r.Intn(4), Who: "a", At: r.Intn(3), Mask: r.Intn(9999)}
			case 4:
				s = of(api.Ask, "a")
			case 5, 6:
				// What those do whom it does not see, and what all do with one of them.
				hidden := []string{"d", "e", "f"}
				user, friend := hidden[r.Intn(3)], []string{"d", "e", "f", "b", "c"}[r.Intn(5)]
				for _, e := range []api.Event{does(1+r.Intn(6), user, friend), does(1+r.Intn(6), friend, user), shows(user, r.Intn(4), here), leaves(user, r.Intn(4))} {
					one.Step(done(e))
				}
				one.Step(of(api.Attach, user))
				one.Step(of(api.Drain, user))
				continue
			}
			if x, y := one.Step(s), other.Step(s); x != y {
				t.Fatalf("P5: Step %v: %d and %d", s, x, y)
			}
			x, _ := one.Client("a")
			y, _ := other.Client("a")
			if !client.Same(x, y) || !slices.Equal(one.Flight("a"), other.Flight("a")) || !slices.Equal(one.View("a"), other.View("a")) {
				t.Fatalf("P5: %v and %v", x, y)
			}
		}
	}
}

// TestAnswersAreNewMemory: whoever changes what it was told changes nothing of the world, and what was told stays as it was.
func TestAnswersAreNewMemory(t *testing.T) {
	b := pairOf(t, good)
	b.steps(t, done(shows("ann", 0, away)), of(api.Drain, "bob"), done(shows("ann", 0, busy)), of(api.Drain, "bob"), done(shows("ann", 0, here)))
	x, _ := b.Client("bob")
	x.Table[0] = row("zed", away)
	texts := b.Flight("bob")
	texts[0] = "zz"
	_ = append(texts[:1], "zz")
	rows := b.View("bob")
	rows[0] = row("zed", away)
	s := b.State()
	s.Entries[0], s.Sessions[0] = api.Entry{}, api.Session{}
	l, _ := b.Link("bob")
	l.Queue.List[0] = api.Change{Contact: "zed"}
	b.check(t)
	x, _ = b.Client("bob")
	texts, rows = b.Flight("bob"), b.View("bob")
	had, told, saw := slices.Clone(x.Table), slices.Clone(texts), slices.Clone(rows)
	b.steps(t, of(api.Twice, "bob"), spoils("bob", 0, 1, 1), at(api.Deliver, "bob", 2), at(api.Drop, "bob", 0), of(api.Drain, "bob"))
	b.calm(t, "bob", 5, api.OK)
	if !slices.Equal(x.Table, had) || !slices.Equal(texts, told) || !slices.Equal(rows, saw) {
		t.Errorf("R5: %v, %q, %v", x, texts, rows)
	}
}

// TestTheSameStepsTellTheSame: R6.
func TestTheSameStepsTellTheSame(t *testing.T) {
	r := rand.New(rand.NewSource(9))
	b := begun(t, good, nil)
	var l []api.Step
	for range 500 {
		s := b.randomStep(r, true)
		b.kept.step(s)
		l = append(l, s)
	}
	w, want := Run(good, l)
	for range 10 {
		again, told := Run(good, l)
		if !slices.Equal(told, want) {
			t.Fatalf("R6: %v, and %v", told, want)
		}
		same(t, again, w)
	}
}

func TestMuchIsDoneSoon(t *testing.T) {
	begin := time.Now()
	name := func(n int) string {
		return "u" + string([]byte{'a' + byte(n/676), 'a' + byte(n/26%26), 'a' + byte(n%26)})
	}
	var l []api.Step
	for n := range 1000 {
		l = append(l, of(api.Attach, name(n)), of(api.Drain, name(n)), of(api.Deliver, name(n)))
	}
	for n := range 100 {
		for _, e := range befriends(name(n+1), name(n)) {
			l = append(l, done(e))
		}
		l = append(l, done(shows(name(n%30), 0, here)))
	}
	w, told := Run(wide, l)
	if told[len(told)-1] != api.OK {
		t.Errorf("P24.4: %v", told)
	}
	for n := range 5 {
		w.Calm(name(n), math.MaxInt)
	}
	w.Step(rawOf(strings.Repeat("z", 1<<24)))
	w.Step(of(api.Attach, strings.Repeat("z", 1<<24)))
	if took := time.Since(begin); took > 20*time.Second {
		t.Errorf("it took %v", took)
	}
}
