package state

import (
	"math"
	"math/rand"
	"slices"
	"strings"
	"testing"
	"time"

	"rollcall/api"
	"rollcall/ident"
	"rollcall/rost"
	"rollcall/sess"
)

var (
	to     = api.Item{To: true}
	from   = api.Item{From: true}
	out    = api.Item{Out: true}
	in     = api.Item{In: true}
	blocks = api.Item{Block: true}
)

// sixteen: a name of 16 bytes; one more makes it none.
var sixteen = strings.Repeat("z", 16)

// wrongNames: texts that are no names.
var wrongNames = []string{"", "A", "Ann", "1", "-a", "a_b", "a b", "a\xff", "\u00e9", "a\x00", sixteen + "z"}

// wrongIds: numbers that no session has.
var wrongIds = []int{-1, 4, 5, 256, 1 << 32, math.MaxInt, math.MinInt}

// wrongValues: values that may not be.
var wrongValues = []api.Value{
	{}, {Show: -1}, {Show: 5}, {Show: 1, Prio: -129}, {Show: 1, Prio: 128}, {Show: 1, Since: -1}, {Show: 1, Since: 1<<40 + 1}, {Show: 1, Status: strings.Repeat("s", 33)}, {Show: 1, Status: "\x1f"},
}

// wrongKinds: numbers that are no Kind.
var wrongKinds = []int{0, -1, -8, 9, 10, 16, 256 + 1, 1<<32 + 1, 1<<32 + 7, math.MaxInt, math.MinInt}

// on: the entry of owner on contact.
func on(owner, contact string, i api.Item) api.Entry {
	return api.Entry{Owner: owner, Contact: contact, Item: i}
}

// some: a session with a Value that tells of n.
func some(user string, id int, n int) api.Session {
	return api.Session{User: user, Id: id, Value: api.Value{Show: 1 + n%4, Prio: n%256 - 128, Since: n * 1000, Status: strings.Repeat("s", n%33)}}
}

// other: the event in which user does to other what kind tells.
func other(kind int, user, other string) api.Event {
	return api.Event{Kind: kind, User: user, Other: other}
}

// show: the event in which s is there.
func show(s api.Session) api.Event {
	return api.Event{Kind: api.Show, User: s.User, Id: s.Id, Value: s.Value}
}

// leave: the event in which that session goes.
func leave(user string, id int) api.Event {
	return api.Event{Kind: api.Leave, User: user, Id: id}
}

// name: the names number 0, 1, 2 .. in their order, other than single letters.
func name(n int) string {
	return string([]byte{'c', byte('a' + n/26), byte('a' + n%26)})
}

// entries: rosters that may be, in which bob sees al, cy asks bob, and ann blocks bob.
func entries() []api.Entry {
	return []api.Entry{
		on("al", "bob", from), on("cy", "bob", out), on("ann", "bob", blocks),
		on("bob", "al", to), on("bob", "cy", in), on("bob", "ann", api.Item{}),
	}
}

// sessions: such as may be, of al and of bob.
func sessions() []api.Session {
	return []api.Session{some("al", 0, 1), some("al", 2, 2), some("bob", 3, 3)}
}

// full: rosters in which "full" has 16 contacts.
func full() []api.Entry {
	var mine, theirs []api.Entry
	for n := range 16 {
		mine = append(mine, on("full", name(n), out))
		theirs = append(theirs, on(name(n), "full", in))
	}
	return append(theirs, mine...)
}

// crowd: so many sessions.
func crowd(count int) []api.Session {
	var l []api.Session
	for n := range count {
		l = append(l, some(name(n/4), n%4, n))
	}
	return l
}

// goodEntries: rosters that may be.
func goodEntries() [][]api.Entry {
	return [][]api.Entry{nil, {}, entries(), full(), {on("a", "b", out), on("b", "a", in)}}
}

// badEntries: rosters that may not be.
func badEntries() [][]api.Entry {
	return [][]api.Entry{
		{on("a", "b", out)}, {on("b", "a", in), on("a", "b", out)}, {on("a", "b", out), on("b", "a", out)}, {on("a", "b", api.Item{}), on("b", "a", api.Item{})},
		{on("a", "a", blocks)}, {on("A", "b", out), on("b", "A", in)}, {on("a", "b", out), on("a", "b", out), on("b", "a", in)}, {{}}, entries()[:5], entries()[1:],
	}
}

// goodSessions: such as may be.
func goodSessions() [][]api.Session {
	return [][]api.Session{nil, {}, sessions(), crowd(31), crowd(32), {some("zed", 3, 9)}}
}

// badSessions: such as may not be.
func badSessions() [][]api.Session {
	return [][]api.Session{
		{some("b", 0, 1), some("a", 0, 1)}, {some("a", 1, 1), some("a", 0, 1)}, {some("a", 0, 1), some("a", 0, 1)}, {some("A", 0, 1)}, {some("", 0, 1)}, {some("a", 4, 1)}, {some("a", -1, 1)}, {{User: "a"}}, {{}}, crowd(33),
	}
}

// mays: states that may be.
func mays() []api.State {
	var l []api.State
	for _, e := range goodEntries() {
		for _, s := range goodSessions() {
			l = append(l, api.State{Entries: e, Sessions: s})
		}
	}
	return l
}

// mayNots: states that may not be, by Entries, by Sessions, or by both.
func mayNots() []api.State {
	var l []api.State
	for _, e := range badEntries() {
		for _, s := range append(goodSessions(), badSessions()...) {
			l = append(l, api.State{Entries: e, Sessions: s})
		}
	}
	for _, e := range goodEntries() {
		for _, s := range badSessions() {
			l = append(l, api.State{Entries: e, Sessions: s})
		}
	}
	return l
}

// same: whether both are the same, word by word.
func same(a, b api.State) bool {
	if len(a.Entries) != len(b.Entries) || len(a.Sessions) != len(b.Sessions) {
		return false
	}
	for i, e := range a.Entries {
		if e.Owner != b.Entries[i].Owner || e.Contact != b.Entries[i].Contact || e.Item != b.Entries[i].Item {
			return false
		}
	}
	for i, s := range a.Sessions {
		if s.User != b.Sessions[i].User || s.Id != b.Sessions[i].Id || s.Value != b.Sessions[i].Value {
			return false
		}
	}
	return true
}

// clone: s in memory of its own.
func clone(s api.State) api.State {
	return api.State{Entries: slices.Clone(s.Entries), Sessions: slices.Clone(s.Sessions)}
}

// apply: what Apply is to tell, by rost and sess.
func apply(s api.State, e api.Event) (api.State, api.Errno) {
	if !rost.May(s.Entries) || !sess.May(s.Sessions) || e.Kind < 1 || e.Kind > 8 {
		return s, api.ErrArg
	}
	behind, err := s, api.OK
	if e.Kind <= 6 {
		behind.Entries, err = rost.Do(s.Entries, e.Kind, e.User, e.Other)
	} else if e.Kind == 7 {
		behind.Sessions, err = sess.Put(s.Sessions, api.Session{User: e.User, Id: e.Id, Value: e.Value})
	} else {
		behind.Sessions, err = sess.Drop(s.Sessions, e.User, e.Id)
	}
	if err != api.OK {
		return s, err
	}
	return behind, err
}

// do: Apply, that is to tell that error, and s itself beside one; s is left as it was.
func do(t *testing.T, s api.State, e api.Event, want api.Errno) api.State {
	t.Helper()
	was := clone(s)
	got, err := Apply(s, e)
	if err != want {
		t.Errorf("P14.2: Apply of %v: %d, not %d", e, err, want)
	}
	if want != api.OK && !same(got, was) {
		t.Errorf("P14.2: beside error %d of %v: %v, not %v", err, e, got, was)
	}
	if !same(s, was) {
		t.Errorf("R5: %v was changed by %v", was, e)
	}
	return got
}

func TestMay(t *testing.T) {
	for i, s := range mays() {
		if !May(s) {
			t.Errorf("P14.1: case %d: %v may not be", i, s)
		}
	}
	for i, s := range mayNots() {
		if May(s) {
			t.Errorf("P14.1: case %d: %v may be", i, s)
		}
	}
}

func TestMayByEachPartAlone(t *testing.T) {
	for i, e := range badEntries() {
		if May(api.State{Entries: e}) || May(api.State{Entries: e, Sessions: sessions()}) {
			t.Errorf("P14.1: case %d: Entries %v may be", i, e)
		}
	}
	for i, s := range badSessions() {
		if May(api.State{Sessions: s}) || May(api.State{Entries: entries(), Sessions: s}) {
			t.Errorf("P14.1: case %d: Sessions %v may be", i, s)
		}
	}
	// The one part hangs not on the other: a session of one without a roster, and the other way round.
	if !May(api.State{Sessions: sessions()}) || !May(api.State{Entries: entries()}) || !May(api.State{}) {
		t.Error("P14.1: one part alone may not be")
	}
}

// turned: states that are other than one of entries and sessions, each by one thing.
func turned() []api.State {
	base := api.State{Entries: entries(), Sessions: sessions()}
	var l []api.State
	for i := range base.Entries {
		for _, turn := range []func(*api.Entry){
			func(e *api.Entry) { e.Owner += "x" },
			func(e *api.Entry) { e.Contact += "x" },
			func(e *api.Entry) { e.Owner, e.Contact = e.Contact, e.Owner },
			func(e *api.Entry) { e.Item.To = !e.Item.To },
			func(e *api.Entry) { e.Item.From = !e.Item.From },
			func(e *api.Entry) { e.Item.Out = !e.Item.Out },
			func(e *api.Entry) { e.Item.In = !e.Item.In },
			func(e *api.Entry) { e.Item.Block = !e.Item.Block },
		} {
			s := clone(base)
			turn(&s.Entries[i])
			l = append(l, s)
		}
		less, more := clone(base), clone(base)
		less.Entries = slices.Delete(less.Entries, i, i+1)
		more.Entries = slices.Insert(more.Entries, i, more.Entries[i])
		l = append(l, less, more)
	}
	for i := range base.Sessions {
		for _, turn := range []func(*api.Session){
			func(s *api.Session) { s.User += "x" },
			func(s *api.Session) { s.Id++ },
			func(s *api.Session) { s.Value.Show++ },
			func(s *api.Session) { s.Value.Prio-- },
			func(s *api.Session) { s.Value.Since++ },
			func(s *api.Session) { s.Value.Status += "x" },
		} {
			s := clone(base)
			turn(&s.Sessions[i])
			l = append(l, s)
		}
		less, more := clone(base), clone(base)
		less.Sessions = slices.Delete(less.Sessions, i, i+1)
		more.Sessions = slices.Insert(more.Sessions, i, more.Sessions[i])
		l = append(l, less, more)
	}
	back, about := clone(base), clone(base)
	slices.Reverse(back.Entries)
	slices.Reverse(about.Sessions)
	return append(l, back, about, api.State{Entries: entries()}, api.State{Sessions: sessions()}, api.State{})
}

func TestSame(t *testing.T) {
	base := api.State{Entries: entries(), Sessions: sessions()}
	if !Same(base, base) || !Same(base, clone(base)) {
		t.Error("P14.1: a state is not the same as itself")
	}
	for i, s := range turned() {
		if Same(base, s) || Same(s, base) {
			t.Errorf("P14.1: case %d: %v is the same as %v", i, s, base)
		}
		// Such as may not be are told as well.
		if !Same(s, clone(s)) {
			t.Errorf("P14.1: case %d: %v is not the same as itself", i, s)
		}
	}
	// A list may be nil where it is empty.
	none := api.State{Entries: []api.Entry{}, Sessions: []api.Session{}}
	for i, s := range []api.State{{}, none, {Entries: none.Entries}, {Sessions: none.Sessions}} {
		if !Same(s, none) || !Same(api.State{}, s) {
			t.Errorf("P14.1: case %d: an empty state is not the same as another one", i)
		}
	}
}

func TestSameOfMany(t *testing.T) {
	all := slices.Concat(mays(), mayNots(), turned())
	for i, a := range all {
		for j, b := range all {
			if Same(a, b) != same(a, b) {
				t.Fatalf("P14.1: cases %d and %d: Same of %v and %v: %v", i, j, a, b, Same(a, b))
			}
		}
	}
}

// TestApplyOfEachKind: in turn, what comes of it, word by word.
func TestApplyOfEachKind(t *testing.T) {
	var s api.State
	for i, c := range []struct {
		e        api.Event
		entries  []api.Entry
		sessions []api.Session
	}{
		{other(api.Subscribe, "bob", "al"), []api.Entry{on("al", "bob", in), on("bob", "al", out)}, nil},
		{show(some("bob", 1, 5)), []api.Entry{on("al", "bob", in), on("bob", "al", out)}, []api.Session{some("bob", 1, 5)}},
		{other(api.Subscribed, "al", "bob"), []api.Entry{on("al", "bob", from), on("bob", "al", to)}, []api.Session{some("bob", 1, 5)}},
		{show(some("zoe", 0, 6)), []api.Entry{on("al", "bob", from), on("bob", "al", to)}, []api.Session{some("bob", 1, 5), some("zoe", 0, 6)}},
		{show(some("bob", 0, 7)), []api.Entry{on("al", "bob", from), on("bob", "al", to)}, []api.Session{some("bob", 0, 7), some("bob", 1, 5), some("zoe", 0, 6)}},
		{show(some("bob", 1, 8)), []api.Entry{on("al", "bob", from), on("bob", "al", to)}, []api.Session{some("bob", 0, 7), some("bob", 1, 8), some("zoe", 0, 6)}},
		{other(api.Block, "al", "bob"), []api.Entry{on("al", "bob", api.Item{From: true, Block: true}), on("bob", "al", to)}, []api.Session{some("bob", 0, 7), some("bob", 1, 8), some("zoe", 0, 6)}},
		{other(api.Unblock, "al", "bob"), []api.Entry{on("al", "bob", from), on("bob", "al", to)}, []api.Session{some("bob", 0, 7), some("bob", 1, 8), some("zoe", 0, 6)}},
		{leave("bob", 0), []api.Entry{on("al", "bob", from), on("bob", "al", to)}, []api.Session{some("bob", 1, 8), some("zoe", 0, 6)}},
		{other(api.Unsubscribe, "bob", "al"), nil, []api.Session{some("bob", 1, 8), some("zoe", 0, 6)}},
		{other(api.Subscribe, "zoe", "al"), []api.Entry{on("al", "zoe", in), on("zoe", "al", out)}, []api.Session{some("bob", 1, 8), some("zoe", 0, 6)}},
		{leave("zoe", 0), []api.Entry{on("al", "zoe", in), on("zoe", "al", out)}, []api.Session{some("bob", 1, 8)}},
		{other(api.Unsubscribed, "al", "zoe"), nil, []api.Session{some("bob", 1, 8)}},
		{leave("bob", 1), nil, nil},
	} {
		s = do(t, s, c.e, api.OK)
		if !same(s, api.State{Entries: c.entries, Sessions: c.sessions}) {
			t.Errorf("P14.2: case %d: %v", i, s)
		}
	}
}

// TestShowAgainIsOne: as the chapter's example tells.
func TestShowAgainIsOne(t *testing.T) {
	s := do(t, api.State{}, show(some("ann", 0, 1)), api.OK)
	if !same(s, api.State{Sessions: []api.Session{some("ann", 0, 1)}}) {
		t.Errorf("P14.2: %v", s)
	}
	s = do(t, s, show(some("ann", 0, 2)), api.OK)
	if !same(s, api.State{Sessions: []api.Session{some("ann", 0, 2)}}) {
		t.Errorf("P14.2: %v", s)
	}
}

func TestApplyLeavesTheOtherPart(t *testing.T) {
	s := api.State{Entries: entries(), Sessions: sessions()}
	for kind, e := range map[int]api.Event{
		1: other(1, "al", "bob"), 2: other(2, "bob", "cy"), 3: other(3, "bob", "al"), 4: other(4, "al", "bob"), 5: other(5, "cy", "bob"), 6: other(6, "ann", "bob"),
		7: show(some("cy", 1, 4)), 8: leave("al", 2),
	} {
		got := do(t, s, e, api.OK)
		if (kind <= 6) != slices.Equal(got.Sessions, s.Sessions) || (kind > 6) != slices.Equal(got.Entries, s.Entries) {
			t.Errorf("P14.2: Kind %d: of %v comes %v", kind, s, got)
		}
	}
}

// TestApplyOfManyEvents: of all Kinds, of users that are there and not, against rost and sess.
func TestApplyOfManyEvents(t *testing.T) {
	users := []string{"al", "bob", "cy", "ann", "new", "full", name(0), sixteen, "", "Al"}
	states := []api.State{{}, {Entries: entries(), Sessions: sessions()}, {Entries: full(), Sessions: crowd(32)}, {Entries: entries(), Sessions: crowd(31)}}
	for _, s := range append(states, mayNots()[:3]...) {
		for kind := -1; kind < 11; kind++ {
			for i, a := range users {
				for j, b := range users {
					e := api.Event{Kind: kind, User: a, Other: b, Id: (i+j)%6 - 1, Value: some(a, 0, i*j).Value}
					want, err := apply(s, e)
					if got := do(t, s, e, err); !same(got, want) {
						t.Fatalf("P14.2: Apply of %v to %v: %v", e, s, got)
					}
				}
			}
		}
	}
}

func TestApplyRefusesWrongKinds(t *testing.T) {
	for _, kind := range wrongKinds {
		for _, s := range mays() {
			do(t, s, other(kind, "new", "newer"), api.ErrArg)
			do(t, s, api.Event{Kind: kind, User: "bob", Other: "al", Id: 3, Value: api.Value{Show: 1}}, api.ErrArg)
			do(t, s, api.Event{Kind: kind}, api.ErrArg)
		}
	}
}

// TestApplyRefusesStatesThatMayNotBe: ahead of all that rost and sess would tell.
func TestApplyRefusesStatesThatMayNotBe(t *testing.T) {
	for _, s := range mayNots() {
		for kind := range 11 {
			do(t, s, api.Event{Kind: kind, User: "new", Other: "newer", Id: 1, Value: api.Value{Show: 1}}, api.ErrArg)
			do(t, s, api.Event{Kind: kind, User: "al", Other: "al", Id: 0}, api.ErrArg)
		}
	}
	// What is wrong is the part that the event's Kind leaves alone.
	for _, l := range badSessions() {
		s := api.State{Entries: entries(), Sessions: l}
		do(t, s, other(api.Subscribe, "new", "newer"), api.ErrArg)
		do(t, s, other(api.Subscribe, "bob", "al"), api.ErrArg)
		do(t, s, other(api.Subscribe, "ann", "bob"), api.ErrArg)
		do(t, api.State{Entries: full(), Sessions: l}, other(api.Subscribe, "full", "new"), api.ErrArg)
	}
	for _, l := range badEntries() {
		do(t, api.State{Entries: l, Sessions: sessions()}, show(some("new", 0, 1)), api.ErrArg)
		do(t, api.State{Entries: l, Sessions: sessions()}, leave("al", 0), api.ErrArg)
		do(t, api.State{Entries: l, Sessions: sessions()}, leave("al", 1), api.ErrArg)
		do(t, api.State{Entries: l, Sessions: crowd(32)}, show(some("new", 0, 1)), api.ErrArg)
	}
}

func TestApplyTellsTheErrorsOfRost(t *testing.T) {
	s := api.State{Entries: entries(), Sessions: sessions()}
	for _, wrong := range wrongNames {
		for kind := 1; kind <= 6; kind++ {
			do(t, s, other(kind, wrong, "bob"), api.ErrArg)
			do(t, s, other(kind, "bob", wrong), api.ErrArg)
		}
	}
	for kind := 1; kind <= 6; kind++ {
		do(t, s, other(kind, "bob", "bob"), api.ErrArg)
		do(t, s, other(kind, "new", "new"), api.ErrArg)
	}
	for _, e := range []api.Event{
		other(api.Subscribe, "bob", "al"), other(api.Subscribe, "cy", "bob"), other(api.Subscribed, "bob", "al"), other(api.Subscribed, "al", "new"),
		other(api.Unsubscribe, "al", "bob"), other(api.Unsubscribed, "bob", "al"), other(api.Block, "ann", "bob"), other(api.Unblock, "bob", "ann"), other(api.Unblock, "new", "bob"),
	} {
		do(t, s, e, api.ErrState)
	}
	for _, e := range []api.Event{
		other(api.Subscribe, "bob", "ann"), other(api.Subscribe, "ann", "bob"), other(api.Subscribed, "bob", "ann"), other(api.Subscribed, "ann", "bob"),
	} {
		do(t, s, e, api.ErrBlock)
	}
	s.Entries = full()
	for _, e := range []api.Event{
		other(api.Subscribe, "full", "new"), other(api.Subscribe, "new", "full"), other(api.Block, "full", "new"), other(api.Block, "new", "full"),
	} {
		do(t, s, e, api.ErrFull)
	}
	do(t, s, other(api.Block, "full", name(0)), api.OK)
}

func TestApplyTellsTheErrorsOfSess(t *testing.T) {
	s := api.State{Entries: entries(), Sessions: sessions()}
	for _, wrong := range wrongNames {
		do(t, s, show(some(wrong, 0, 1)), api.ErrArg)
		do(t, s, leave(wrong, 0), api.ErrNone)
	}
	for _, id := range wrongIds {
		do(t, s, show(some("al", id, 1)), api.ErrArg)
		do(t, s, leave("al", id), api.ErrNone)
	}
	for _, v := range wrongValues {
		do(t, s, show(api.Session{User: "al", Id: 0, Value: v}), api.ErrArg)
		do(t, s, show(api.Session{User: "new", Id: 0, Value: v}), api.ErrArg)
	}
	for _, e := range []api.Event{leave("al", 1), leave("al", 3), leave("bob", 0), leave("new", 0)} {
		do(t, s, e, api.ErrNone)
		do(t, api.State{}, e, api.ErrNone)
	}
	s.Sessions = crowd(32)
	do(t, s, show(some("new", 0, 1)), api.ErrFull)
	do(t, s, show(some("al", 3, 1)), api.ErrFull)
	do(t, s, show(api.Session{User: "new"}), api.ErrArg)
	do(t, s, show(some(name(0), 0, 99)), api.OK)
	s.Sessions = crowd(31)
	if got := do(t, s, show(some("new", 0, 1)), api.OK); len(got.Sessions) != 32 {
		t.Errorf("P14.2: %d sessions", len(got.Sessions))
	}
}

// TestWhatAKindDoesNotNameIsNotLookedAt: wrong fields that the Kind does not name do nothing.
func TestWhatAKindDoesNotNameIsNotLookedAt(t *testing.T) {
	states := []api.State{{}, {Entries: entries(), Sessions: sessions()}, {Entries: full(), Sessions: crowd(32)}}
	for _, s := range states {
		for _, plain := range []api.Event{
			other(1, "al", "bob"), other(1, "bob", "al"), other(2, "bob", "cy"), other(3, "bob", "al"), other(4, "al", "bob"), other(5, "new", "bob"), other(6, "ann", "bob"), other(1, "full", "new"), other(1, "A", "b"),
			show(some("al", 0, 9)), show(some("new", 3, 9)), show(some("", 0, 9)), leave("al", 2), leave("al", 1), leave("", 0),
		} {
			want, err := Apply(s, plain)
			for _, e := range spoilt(plain) {
				if got := do(t, s, e, err); !same(got, want) {
					t.Errorf("P14.2: of %v comes another state than of %v: %v", e, plain, got)
				}
			}
		}
	}
}

// spoilt: e with each field other than its Kind names.
func spoilt(e api.Event) []api.Event {
	var l []api.Event
	for i, wrong := range append(wrongNames, e.User, "bob", sixteen) {
		x := e
		if e.Kind > 6 {
			x.Other = wrong
		} else {
			x.Id = wrongIds[i%len(wrongIds)]
		}
		if e.Kind != api.Show {
			x.Value = wrongValues[i%len(wrongValues)]
		}
		l = append(l, x)
	}
	return l
}

func TestAll(t *testing.T) {
	states := append(mays(), mayNots()...)
	for _, s := range states {
		for _, none := range [][]api.Event{nil, {}} {
			if got, told := All(s, none); !same(got, s) || len(told) != 0 {
				t.Errorf("P14.3: of no event: %v, %v", got, told)
			}
		}
		for _, e := range []api.Event{other(1, "bob", "al"), other(1, "new", "bob"), show(some("new", 0, 1)), leave("bob", 3), leave("bob", 2), {}} {
			want, err := apply(s, e)
			if got, told := All(s, []api.Event{e}); !same(got, want) || !slices.Equal(told, []api.Errno{err}) {
				t.Errorf("P14.3: of %v alone: %v, %v", e, got, told)
			}
		}
	}
}

func TestAllOfManyWithRefusedOnes(t *testing.T) {
	l := []api.Event{
		{}, other(api.Subscribe, "bob", "al"), other(api.Subscribe, "bob", "al"), other(api.Subscribed, "al", "bob"), leave("al", 0), show(some("al", 0, 1)), show(some("al", 4, 1)),
		other(9, "bob", "al"), show(some("al", 0, 2)), other(api.Block, "al", "bob"), other(api.Subscribe, "bob", "al"), other(api.Unsubscribe, "bob", "al"), leave("al", 1), show(some("bob", 3, 3)), leave("al", 0), leave("al", 0),
	}
	want := []api.Errno{
		api.ErrArg, api.OK, api.ErrState, api.OK, api.ErrNone, api.OK, api.ErrArg,
		api.ErrArg, api.OK, api.OK, api.ErrBlock, api.OK, api.ErrNone, api.OK, api.OK, api.ErrNone,
	}
	was := slices.Clone(l)
	got, told := All(api.State{}, l)
	if !slices.Equal(told, want) {
		t.Errorf("P14.3: %v, not %v", told, want)
	}
	if !same(got, api.State{Entries: []api.Entry{on("al", "bob", blocks), on("bob", "al", api.Item{})}, Sessions: []api.Session{some("bob", 3, 3)}}) {
		t.Errorf("P14.3: %v", got)
	}
	if !slices.Equal(l, was) {
		t.Error("R5: the events were changed")
	}
	// Where each one is refused, s itself is behind them.
	for _, s := range mayNots() {
		got, told := All(s, l)
		if !same(got, s) || len(told) != len(l) || slices.ContainsFunc(told, func(e api.Errno) bool { return e != api.ErrArg }) {
			t.Errorf("P14.3: of a state that may not be: %v, %v", got, told)
		}
	}
}

// event: one of few users, that is refused at times.
func event(r *rand.Rand) api.Event {
	users := []string{"a", "b", "c", "aa", "b"}
	e := api.Event{Kind: 1 + r.Intn(8), User: users[r.Intn(len(users))], Other: users[r.Intn(len(users))], Id: r.Intn(4), Value: some("a", 0, r.Intn(200)).Value}
	switch r.Intn(30) {
	case 0:
		e.Kind = r.Intn(14) - 2
	case 1:
		e.User = wrongNames[r.Intn(len(wrongNames))]
	case 2:
		e.Other = wrongNames[r.Intn(len(wrongNames))]
	case 3:
		e.Id = wrongIds[r.Intn(len(wrongIds))]
	case 4:
		e.Value = wrongValues[r.Intn(len(wrongValues))]
	}
	return e
}

// TestManyEvents: of a state that may be comes one that may be, and a refused event changes nothing.
func TestManyEvents(t *testing.T) {
	r := rand.New(rand.NewSource(1))
	seen := map[api.Errno]int{}
	kinds := map[int]int{}
	for range 60 {
		s, l := api.State{}, []api.Event(nil)
		var told []api.Errno
		for range 300 {
			e := event(r)
			want, err := apply(s, e)
			got := do(t, s, e, err)
			if !same(got, want) {
				t.Fatalf("P14.2: Apply of %v to %v: %v", e, s, got)
			}
			if !May(got) {
				t.Fatalf("P14.5: of %v and %v comes %v", s, e, got)
			}
			if err != api.OK && !Same(got, s) {
				t.Fatalf("P14.5: %v was refused, but changed %v to %v", e, s, got)
			}
			seen[err]++
			if err == api.OK {
				kinds[e.Kind]++
			}
			s, l, told = got, append(l, e), append(told, err)
		}
		if got, errs := All(api.State{}, l); !same(got, s) || !slices.Equal(errs, told) {
			t.Fatalf("P14.3: of %v: %v, %v", l, got, errs)
		}
		// The same in two parts.
		half := r.Intn(len(l))
		first, _ := All(api.State{}, l[:half])
		if got, errs := All(first, l[half:]); !same(got, s) || !slices.Equal(errs, told[half:]) {
			t.Fatalf("P14.3: in two parts: %v, %v", got, errs)
		}
	}
	for _, err := range []api.Errno{api.OK, api.ErrArg, api.ErrNone, api.ErrState, api.ErrBlock} {
		if seen[err] < 50 {
			t.Errorf("%d was told %d times only", err, seen[err])
		}
	}
	for kind := 1; kind <= 8; kind++ {
		if kinds[kind] < 50 {
			t.Errorf("Kind %d was done %d times only", kind, kinds[kind])
		}
	}
}

// TestAtTheLimits: as many as may be stay as many.
func TestAtTheLimits(t *testing.T) {
	var s api.State
	for n := range 20 {
		err := api.OK
		if n >= 16 {
			err = api.ErrFull
		}
		s = do(t, s, other(api.Subscribe, "hub", name(n)), err)
		s = do(t, s, other(api.Subscribe, name(n), "bub"), err)
	}
	for n := range 40 {
		err := api.OK
		if n >= 32 {
			err = api.ErrFull
		}
		s = do(t, s, show(some(name(n/4), n%4, n)), err)
	}
	if !May(s) || len(s.Entries) != 64 || len(s.Sessions) != 32 {
		t.Errorf("P14.5: %d entries, %d sessions", len(s.Entries), len(s.Sessions))
	}
}

func TestTouches(t *testing.T) {
	for i, c := range []struct {
		user, other string
		both        []string
	}{
		{"a", "b", []string{"a", "b"}},
		{"b", "a", []string{"a", "b"}},
		{"aa", "b", []string{"b", "aa"}},
		{"b", "aa", []string{"b", "aa"}},
		{"al", "ann", []string{"al", "ann"}},
		{"ann", "al", []string{"al", "ann"}},
		{"ann", "ann", []string{"ann"}},
		// Any texts, also such as are no names.
		{"", "", []string{""}},
		{"", "a", []string{"", "a"}},
		{"a", "", []string{"", "a"}},
		{"\xff", "A", []string{"A", "\xff"}},
		{"A", "a", []string{"A", "a"}},
		{sixteen + "z", "Ann B", []string{"Ann B", sixteen + "z"}},
	} {
		for kind := -3; kind < 14; kind++ {
			var want []string
			switch {
			case kind >= 1 && kind <= 6:
				want = c.both
			case kind == 7 || kind == 8:
				want = []string{c.user}
			}
			e := api.Event{Kind: kind, User: c.user, Other: c.other, Id: 7 - kind, Value: api.Value{Show: kind}}
			if got := Touches(e); !slices.Equal(got, want) {
				t.Errorf("P14.4: case %d: Kind %d: %q, not %q", i, kind, got, want)
			}
		}
		for _, kind := range wrongKinds {
			if got := Touches(other(kind, c.user, c.other)); len(got) != 0 {
				t.Errorf("P14.4: case %d: Kind %d: %q", i, kind, got)
			}
		}
	}
}

// TestNobodyElseIsTouched: entries and sessions of those whom an event does not touch stay.
func TestNobodyElseIsTouched(t *testing.T) {
	r := rand.New(rand.NewSource(2))
	var s api.State
	for range 4000 {
		e := event(r)
		behind, _ := Apply(s, e)
		touched := Touches(e)
		if !slices.IsSortedFunc(touched, func(a, b string) int {
			if ident.Less(a, b) {
				return -1
			}
			return 1
		}) {
			t.Fatalf("P14.4: Touches of %v: %q", e, touched)
		}
		if !same(without(s, touched), without(behind, touched)) {
			t.Fatalf("P14.4: %v touches more than %q: of %v comes %v", e, touched, s, behind)
		}
		s = behind
	}
}

// without: s without the entries whose Owner, and the sessions whose User, is one of these.
func without(s api.State, users []string) api.State {
	s = clone(s)
	s.Entries = slices.DeleteFunc(s.Entries, func(e api.Entry) bool { return slices.Contains(users, e.Owner) })
	s.Sessions = slices.DeleteFunc(s.Sessions, func(x api.Session) bool { return slices.Contains(users, x.User) })
	return s
}

// roomy: l with room behind it, that holds what is not to be written over.
func roomy[T any](l []T, behind T) []T {
	more := append(slices.Clone(l), behind, behind, behind)
	return more[:len(l)]
}

// TestNothingHandedInIsChanged: also not what lies behind it in the same memory.
func TestNothingHandedInIsChanged(t *testing.T) {
	guardE, guardS := on("guard", "guarded", blocks), some("guard", 1, 1)
	for kind := range 10 {
		for _, user := range []string{"al", "ann", "bob", "new", "zoe"} {
			s := api.State{Entries: roomy(entries(), guardE), Sessions: roomy(sessions(), guardS)}
			was := clone(s)
			e := api.Event{Kind: kind, User: user, Other: "bob", Id: 2, Value: api.Value{Show: 2}}
			Apply(s, e)
			All(s, []api.Event{e, e, leave("al", 0), show(some("aa", 0, 1)), other(1, "aa", "bob")})
			May(s)
			Same(s, was)
			if !same(s, was) {
				t.Errorf("R5: %v was changed by %v to %v", was, e, s)
			}
			for i := range 3 {
				if s.Entries[:len(s.Entries)+3][len(s.Entries)+i] != guardE || s.Sessions[:len(s.Sessions)+3][len(s.Sessions)+i] != guardS {
					t.Errorf("R5: what lies behind the lists was changed by %v", e)
				}
			}
		}
	}
}

// TestAnAnswerStays: whatever is done with it later.
func TestAnAnswerStays(t *testing.T) {
	r := rand.New(rand.NewSource(3))
	var s api.State
	var states, copies []api.State
	for range 400 {
		s, _ = Apply(s, event(r))
		states, copies = append(states, s), append(copies, clone(s))
		old := states[r.Intn(len(states))]
		Apply(old, event(r))
		All(old, []api.Event{event(r), event(r)})
	}
	for i, s := range states {
		if !same(s, copies[i]) {
			t.Fatalf("R5: answer %d was changed later", i)
		}
	}
}

func TestMuchIsDoneSoon(t *testing.T) {
	start := time.Now()
	var l []api.Event
	for n := range 1000 {
		l = append(l, other(api.Subscribe, name(n%600), name(n%600+1)), show(some(name(n/4%6), n%4, n)), leave(name(n), 0))
	}
	s, told := All(api.State{}, l)
	if !May(s) || len(told) != 3000 || len(s.Entries) != 1200 {
		t.Errorf("P14.3: %d errors, %d entries", len(told), len(s.Entries))
	}
	if took := time.Since(start); took > 20*time.Second {
		t.Errorf("R1: many events took %v", took)
	}
}
