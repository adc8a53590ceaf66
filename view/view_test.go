package view

import (
	"math/rand"
	"slices"
	"strings"
	"testing"
	"time"

	"rollcall/api"
	"rollcall/best"
	"rollcall/digest"
	"rollcall/ident"
	"rollcall/rost"
	"rollcall/sess"
	"rollcall/state"
)

var (
	to     = api.Item{To: true}
	from   = api.Item{From: true}
	both   = api.Item{To: true, From: true}
	out    = api.Item{Out: true}
	in     = api.Item{In: true}
	blocks = api.Item{Block: true}
)

// sixteen: a name of 16 bytes; one more makes it none.
var sixteen = strings.Repeat("z", 16)

// wrongNames: texts that are no names.
var wrongNames = []string{"", "A", "Al", "AL", "BOB", "1", "-a", "a_b", "a b", "al ", " al", "al\x00", "a\xff", "\u00e9", sixteen + "z"}

// on: the entry of owner on contact.
func on(owner, contact string, i api.Item) api.Entry {
	return api.Entry{Owner: owner, Contact: contact, Item: i}
}

// presence: a Value that tells of n.
func presence(n int) api.Value {
	return api.Value{Show: 1 + n%4, Prio: n%256 - 128, Since: n * 1000, Status: strings.Repeat("s", n%33)}
}

// some: a session with a Value that tells of n.
func some(user string, id int, n int) api.Session {
	return api.Session{User: user, Id: id, Value: presence(n)}
}

// row: what is seen of a contact with a Value that tells of n.
func row(contact string, n int) api.Seen {
	return api.Seen{Contact: contact, Value: presence(n)}
}

// now: the change of a contact that is seen with a Value that tells of n.
func now(contact string, n int) api.Change {
	return api.Change{Contact: contact, On: true, Value: presence(n)}
}

// gone: the change of a contact that is seen no more.
func gone(contact string) api.Change {
	return api.Change{Contact: contact}
}

// other: the event in which user does to other what kind tells.
func other(kind int, user, other string) api.Event {
	return api.Event{Kind: kind, User: user, Other: other}
}

// show: the event in which s is there.
func show(s api.Session) api.Event {
	return api.Event{Kind: api.Show, User: s.User, Id: s.Id, Value: s.Value}
}

// leave: the event in which that session goes.
func leave(user string, id int) api.Event {
	return api.Event{Kind: api.Leave, User: user, Id: id}
}

// follow: the events in which w comes to see c.
func follow(w, c string) []api.Event {
	return []api.Event{other(api.Subscribe, w, c), other(api.Subscribed, c, w)}
}

// name: the names number 0, 1, 2 .. in their order, other than single letters.
func name(n int) string {
	return string([]byte{'c', byte('a' + n/26), byte('a' + n%26)})
}

// after: s behind all of these, none of which is to be refused.
func after(t *testing.T, s api.State, events ...api.Event) api.State {
	t.Helper()
	s, told := state.All(s, events)
	for i, err := range told {
		if err != api.OK {
			t.Fatalf("%v was refused: %d", events[i], err)
		}
	}
	return s
}

// base: a state in which bob sees al, who has two sessions, and cy, who has none; al sees bob, who has one; dan, who has one, is asked by bob; eve, who has one, sees bob and blocks him; bob blocks flo, whom he saw.
func base(t *testing.T) api.State {
	events := slices.Concat(follow("bob", "al"), follow("bob", "cy"), follow("al", "bob"), follow("eve", "bob"), follow("bob", "eve"), follow("bob", "flo"))
	events = append(events, other(api.Subscribe, "bob", "dan"), other(api.Block, "eve", "bob"), other(api.Block, "bob", "flo"))
	for i, user := range []string{"al", "bob", "dan", "eve", "flo", "zoe"} {
		events = append(events, show(some(user, 1, 10+i)))
	}
	return after(t, api.State{}, append(events, show(some("al", 2, 7)))...)
}

// users: all whom base knows, one whom it does not, and texts that are no names.
func users() []string {
	return append([]string{"al", "bob", "cy", "dan", "eve", "flo", "zoe", "new", sixteen}, wrongNames...)
}

// mayNots: states that are as s but for one thing, that has to do with nobody of it, and may not be.
func mayNots(s api.State) []api.State {
	var l []api.State
	for _, bad := range [][]api.Entry{
		{on("zza", "zzb", to)}, {on("zza", "zzb", to), on("zzb", "zza", to)}, {on("zza", "zzb", api.Item{}), on("zzb", "zza", api.Item{})}, {on("zza", "zza", blocks)},
		{on("zzb", "zza", from), on("zza", "zzb", to)}, {on("ZZA", "zzb", to), on("zzb", "ZZA", from)}, {on("zza", "zzb", to), on("zza", "zzb", to), on("zzb", "zza", from)}, {{}},
	} {
		l = append(l, api.State{Entries: slices.Concat(s.Entries, bad), Sessions: s.Sessions})
	}
	if len(s.Entries) > 0 {
		l = append(l, api.State{Entries: slices.Concat(s.Entries[:1], s.Entries), Sessions: s.Sessions})
	}
	crowd := slices.Clone(s.Sessions)
	for n := len(crowd); n < 33; n++ {
		crowd = append(crowd, some("zz"+name(n/4), n%4, n))
	}
	for _, bad := range [][]api.Session{
		{some("zzz", 4, 1)}, {some("zzz", -1, 1)}, {some("ZZZ", 0, 1)}, {{User: "zzz"}}, {some("zzz", 1, 1), some("zzz", 0, 1)}, {some("zzz", 0, 1), some("zzz", 0, 1)}, {some("zzz", 0, 1), some("zzy", 0, 1)}, {{}}, crowd[len(s.Sessions):],
	} {
		l = append(l, api.State{Entries: s.Entries, Sessions: slices.Concat(s.Sessions, bad)})
	}
	return l
}

// item: what owner has on contact, word by word.
func item(s api.State, owner, contact string) api.Item {
	for _, e := range s.Entries {
		if e.Owner == owner && e.Contact == contact {
			return e.Item
		}
	}
	return api.Item{}
}

// seenAt: whether w sees c at a value in s, and at which, word by word.
func seenAt(s api.State, w, c string) (api.Value, bool) {
	if !state.May(s) || !item(s, w, c).To || item(s, w, c).Block || item(s, c, w).Block {
		return api.Value{}, false
	}
	var first api.Session
	show, ok := 0, false
	for _, x := range s.Sessions {
		if x.User != c {
			continue
		}
		v, old := x.Value, first.Value
		if !ok || v.Prio > old.Prio || v.Prio == old.Prio && (v.Since > old.Since || v.Since == old.Since && x.Id < first.Id) {
			first = x
		}
		show, ok = max(show, v.Show), true
	}
	if !ok {
		return api.Value{}, false
	}
	first.Value.Show = show
	return first.Value, true
}

// all: all users of s, each once, by their lengths and then by their bytes.
func all(s api.State) []string {
	var l []string
	for _, e := range s.Entries {
		l = append(l, e.Owner, e.Contact)
	}
	for _, x := range s.Sessions {
		l = append(l, x.User)
	}
	slices.SortFunc(l, func(a, b string) int {
		if len(a) != len(b) {
			return len(a) - len(b)
		}
		return strings.Compare(a, b)
	})
	return slices.Compact(l)
}

// wanted: the view of w, word by word.
func wanted(s api.State, w string) []api.Seen {
	var l []api.Seen
	for _, c := range all(s) {
		if v, ok := seenAt(s, w, c); ok {
			l = append(l, api.Seen{Contact: c, Value: v})
		}
	}
	return l
}

// watching: all who see c at a value, word by word.
func watching(s api.State, c string) []string {
	var l []string
	for _, w := range all(s) {
		if _, ok := seenAt(s, w, c); ok {
			l = append(l, w)
		}
	}
	return l
}

// clone: s in memory of its own.
func clone(s api.State) api.State {
	return api.State{Entries: slices.Clone(s.Entries), Sessions: slices.Clone(s.Sessions)}
}

func TestValue(t *testing.T) {
	s := base(t)
	// The session that is more prior tells the value, the one that is more available how available.
	al := api.Value{Show: api.Online, Prio: -118, Since: 10000, Status: strings.Repeat("s", 10)}
	for i, c := range []struct {
		w, c    string
		want    api.Value
		ok      bool
		because string
	}{
		{"bob", "al", al, true, "bob sees al"},
		{"al", "bob", presence(11), true, "al sees bob"},
		{"bob", "cy", api.Value{}, false, "cy has no session"},
		{"cy", "bob", api.Value{}, false, "cy is seen by bob, but does not see him"},
		{"bob", "dan", api.Value{}, false, "dan was asked for alone"},
		{"dan", "bob", api.Value{}, false, "dan was asked for alone"},
		{"bob", "eve", api.Value{}, false, "eve blocks bob"},
		{"eve", "bob", api.Value{}, false, "eve blocks bob, and so does not see him"},
		{"bob", "flo", api.Value{}, false, "bob blocks flo"},
		{"flo", "bob", api.Value{}, false, "flo never saw bob"},
		{"bob", "zoe", api.Value{}, false, "bob knows nothing of zoe"},
		{"zoe", "bob", api.Value{}, false, "zoe knows nothing of bob"},
		{"bob", "new", api.Value{}, false, "nobody knows new"},
		{"new", "bob", api.Value{}, false, "nobody knows new"},
		{"al", "al", api.Value{}, false, "nobody sees oneself"},
		{"bob", "bob", api.Value{}, false, "nobody sees oneself"},
		{"zoe", "zoe", api.Value{}, false, "nobody sees oneself"},
		{"new", "new", api.Value{}, false, "nobody sees oneself"},
	} {
		if got, ok := Value(s, c.w, c.c); got != c.want || ok != c.ok {
			t.Errorf("P15.1: case %d: %v, %v, though %s", i, got, ok, c.because)
		}
	}
}

func TestValueOfTextsThatAreNoNames(t *testing.T) {
	s := base(t)
	for _, wrong := range wrongNames {
		for _, user := range users() {
			if got, ok := Value(s, wrong, user); ok || got != (api.Value{}) {
				t.Errorf("P15.1: %q sees %q at %v", wrong, user, got)
			}
			if got, ok := Value(s, user, wrong); ok || got != (api.Value{}) {
				t.Errorf("P15.1: %q sees %q at %v", user, wrong, got)
			}
		}
	}
}

func TestValueOfAStateThatMayNotBe(t *testing.T) {
	for i, s := range mayNots(base(t)) {
		for _, w := range users() {
			for _, c := range users() {
				if got, ok := Value(s, w, c); ok || got != (api.Value{}) {
					t.Errorf("P15.1: case %d: %q sees %q at %v in %v", i, w, c, got, s)
				}
			}
		}
	}
}

// TestValueIsOfAllSessions: of one, two, three and four of the one seen, in any order of their priorities, and of no other user's.
func TestValueIsOfAllSessions(t *testing.T) {
	seen := after(t, api.State{}, follow("bob", "al")...)
	for i, c := range []struct {
		values []api.Value
		want   api.Value
	}{
		{[]api.Value{{Show: 1}}, api.Value{Show: 1}},
		{[]api.Value{{Show: 2, Prio: 5, Since: 3, Status: "a"}, {Show: 4, Prio: 1, Since: 9, Status: "b"}}, api.Value{Show: 4, Prio: 5, Since: 3, Status: "a"}},
		{[]api.Value{{Show: 4, Prio: 1, Since: 9, Status: "b"}, {Show: 2, Prio: 5, Since: 3, Status: "a"}}, api.Value{Show: 4, Prio: 5, Since: 3, Status: "a"}},
		{[]api.Value{{Show: 2, Since: 3, Status: "a"}, {Show: 3, Since: 4, Status: "b"}, {Show: 1, Since: 4, Status: "c"}}, api.Value{Show: 3, Since: 4, Status: "b"}},
		{[]api.Value{{Show: 1, Prio: -128}, {Show: 1, Prio: 127}, {Show: 1, Prio: 126, Since: 1 << 40}, {Show: 2, Prio: -128}}, api.Value{Show: 2, Prio: 127}},
		{[]api.Value{{Show: 1, Status: "a"}, {Show: 1, Status: "b"}, {Show: 1, Status: "c"}, {Show: 1, Status: "d"}}, api.Value{Show: 1, Status: "a"}},
	} {
		s := seen
		for id, v := range c.values {
			s = after(t, s, show(api.Session{User: "al", Id: id, Value: v}))
		}
		top := api.Value{Show: 4, Prio: 127, Since: 1 << 40, Status: "top"}
		for _, near := range []string{"a", "ak", "am", "all", "bob"} {
			s = after(t, s, show(api.Session{User: near, Id: 3, Value: top}))
		}
		if got, ok := Value(s, "bob", "al"); !ok || got != c.want {
			t.Errorf("P15.1: case %d: %v, %v, not %v", i, got, ok, c.want)
		}
		if got := Of(s, "bob"); !slices.Equal(got, []api.Seen{{Contact: "al", Value: c.want}}) {
			t.Errorf("P15.2: case %d: %v, not %v", i, got, c.want)
		}
	}
}

func TestOf(t *testing.T) {
	s := base(t)
	al, _ := Value(s, "bob", "al")
	for i, c := range []struct {
		w       string
		want    []api.Seen
		because string
	}{
		{"bob", []api.Seen{{Contact: "al", Value: al}}, "bob sees al, and cy, who is not there"},
		{"al", []api.Seen{row("bob", 11)}, "al sees bob alone"},
		{"cy", nil, "cy sees nobody"},
		{"dan", nil, "dan was asked alone"},
		{"eve", nil, "eve blocks whom she would see"},
		{"flo", nil, "flo is seen alone"},
		{"zoe", nil, "zoe knows nobody"},
		{"new", nil, "nobody knows new"},
	} {
		if got := Of(s, c.w); !slices.Equal(got, c.want) {
			t.Errorf("P15.2: case %d: %v, though %s", i, got, c.because)
		}
	}
	for _, wrong := range wrongNames {
		if got := Of(s, wrong); len(got) != 0 {
			t.Errorf("P15.2: of %q: %v", wrong, got)
		}
	}
	// As the chapter's example tells: nobody's session, no rows.
	s.Sessions = nil
	for _, w := range users() {
		if got := Of(s, w); len(got) != 0 {
			t.Errorf("P15.2: without sessions: of %q: %v", w, got)
		}
		if got := Of(api.State{}, w); len(got) != 0 {
			t.Errorf("P15.2: of nothing: of %q: %v", w, got)
		}
	}
}

// mixed: names that stand in another order by their bytes.
var mixed = []string{"a", "b", "z", "aa", "ab", "b0", "zz", "aaa", "abc", "a---", "zzzz", sixteen}

func TestOfMany(t *testing.T) {
	var s api.State
	want := []api.Seen{}
	for i, c := range mixed {
		s = after(t, s, follow("me", c)...)
		s = after(t, s, follow(c, "you")...)
		if i%3 == 1 {
			s = after(t, s, other(api.Block, "me", c))
		}
		if i%4 == 3 {
			continue
		}
		s = after(t, s, show(some(c, i%4, i)))
		if i%3 != 1 {
			want = append(want, row(c, i))
		}
	}
	if got := Of(s, "me"); !slices.Equal(got, want) {
		t.Errorf("P15.2: %v, not %v", got, want)
	}
}

// TestOfAsManyAsMayBe: sixteen contacts, who have all sessions that there may be.
func TestOfAsManyAsMayBe(t *testing.T) {
	var s api.State
	var want []api.Seen
	for n := range 16 {
		s = after(t, s, follow("me", name(n))...)
		s = after(t, s, show(some(name(n), 0, 0)), show(some(name(n), 3, n)))
		v := presence(n)
		v.Show = max(v.Show, presence(0).Show)
		want = append(want, api.Seen{Contact: name(n), Value: v})
	}
	if got := Of(s, "me"); !slices.Equal(got, want) || !digest.May(got) || len(s.Sessions) != api.MaxAll {
		t.Errorf("P15.2: %v, not %v", got, want)
	}
}

func TestWatchers(t *testing.T) {
	s := base(t)
	for i, c := range []struct {
		c       string
		want    []string
		because string
	}{
		{"al", []string{"bob"}, "bob sees al"},
		{"bob", []string{"al"}, "eve blocks bob, whom al sees"},
		{"cy", nil, "cy, whom bob would see, is not there"},
		{"dan", nil, "dan was asked alone"},
		{"eve", nil, "eve blocks who would see her"},
		{"flo", nil, "flo is blocked by who would see her"},
		{"zoe", nil, "nobody knows zoe"},
		{"new", nil, "nobody knows new"},
	} {
		if got := Watchers(s, c.c); !slices.Equal(got, c.want) {
			t.Errorf("P15.2: case %d: %q, though %s", i, got, c.because)
		}
	}
	for _, wrong := range wrongNames {
		if got := Watchers(s, wrong); len(got) != 0 {
			t.Errorf("P15.2: of %q: %q", wrong, got)
		}
	}
	s.Sessions = nil
	for _, c := range users() {
		if got := Watchers(s, c); len(got) != 0 {
			t.Errorf("P15.2: without sessions: of %q: %q", c, got)
		}
		if got := Watchers(api.State{}, c); len(got) != 0 {
			t.Errorf("P15.2: of nothing: of %q: %q", c, got)
		}
	}
}

func TestWatchersOfMany(t *testing.T) {
	s := after(t, api.State{}, show(some("me", 0, 1)))
	var want []string
	for i, w := range mixed {
		s = after(t, s, follow(w, "me")...)
		s = after(t, s, follow("you", w)...)
		if i%3 == 1 {
			s = after(t, s, other(api.Block, "me", w))
		} else {
			want = append(want, w)
		}
	}
	if got := Watchers(s, "me"); !slices.Equal(got, want) {
		t.Errorf("P15.2: %q, not %q", got, want)
	}
	// Who watches hangs not on the watchers' own sessions, but on the one watched having one.
	for i, w := range mixed {
		s = after(t, s, show(some(w, 0, i)))
	}
	if got := Watchers(s, "me"); !slices.Equal(got, want) {
		t.Errorf("P15.2: %q, not %q", got, want)
	}
	s = after(t, s, leave("me", 0))
	if got := Watchers(s, "me"); len(got) != 0 {
		t.Errorf("P15.2: of one who has no session: %q", got)
	}
}

func TestNothingOfAStateThatMayNotBe(t *testing.T) {
	good := base(t)
	for i, s := range mayNots(good) {
		if state.May(s) {
			t.Fatalf("case %d: %v may be", i, s)
		}
		for _, user := range users() {
			if got := Of(s, user); len(got) != 0 {
				t.Errorf("P15.2: case %d: Of %q: %v", i, user, got)
			}
			if got := Watchers(s, user); len(got) != 0 {
				t.Errorf("P15.2: case %d: Watchers of %q: %q", i, user, got)
			}
			view := Of(good, user)
			var come, goes []api.Change
			for _, r := range view {
				come = append(come, api.Change{Contact: r.Contact, On: true, Value: r.Value})
				goes = append(goes, gone(r.Contact))
			}
			if got := Between(s, good, user); !slices.Equal(got, come) {
				t.Errorf("P15.3: case %d: from what may not be, of %q: %v, not %v", i, user, got, come)
			}
			if got := Between(good, s, user); !slices.Equal(got, goes) {
				t.Errorf("P15.3: case %d: to what may not be, of %q: %v, not %v", i, user, got, goes)
			}
			if got := Between(s, s, user); len(got) != 0 {
				t.Errorf("P15.3: case %d: from what may not be to itself: %v", i, got)
			}
		}
	}
}

// TestBetween: of the events that come in turn, what they change of the view of w.
func TestBetween(t *testing.T) {
	for i, c := range []struct {
		w       string
		events  []api.Event
		want    []api.Change
		because string
	}{
		{"bob", nil, nil, "nothing was done"},
		{"bob", []api.Event{show(some("cy", 0, 7))}, []api.Change{now("cy", 7)}, "cy comes"},
		{"bob", []api.Event{leave("al", 1)}, []api.Change{now("al", 7)}, "al has another value"},
		{"bob", []api.Event{leave("al", 2)}, []api.Change{now("al", 10)}, "al has another value"},
		{"bob", []api.Event{leave("al", 1), leave("al", 2)}, []api.Change{gone("al")}, "al goes"},
		{"al", []api.Event{leave("bob", 1)}, []api.Change{gone("bob")}, "bob goes"},
		{"al", []api.Event{show(some("bob", 1, 12))}, []api.Change{now("bob", 12)}, "bob has another value"},
		{"al", []api.Event{show(some("bob", 1, 11))}, nil, "bob has the same value"},
		{"al", []api.Event{leave("bob", 1), show(some("bob", 3, 11))}, nil, "bob has the same value, by another session"},
		{"al", []api.Event{show(some("bob", 0, 3)), leave("bob", 0)}, nil, "bob has the same value again"},
		{"al", []api.Event{show(api.Session{User: "bob", Id: 0, Value: api.Value{Show: 1, Prio: -128}})}, nil, "the session is less prior, and shows less"},
		{"bob", []api.Event{leave("al", 1), leave("al", 2), show(some("cy", 0, 7))}, []api.Change{gone("al"), now("cy", 7)}, "al goes, and cy comes"},
		{"bob", []api.Event{show(some("cy", 2, 8)), leave("al", 1), other(api.Unblock, "eve", "bob")}, []api.Change{now("al", 7), now("cy", 8), now("eve", 13)}, "one has another value, and two come"},
		{"bob", []api.Event{other(api.Subscribed, "dan", "bob"), show(some("cy", 0, 7)), other(api.Unblock, "bob", "flo"), other(api.Block, "al", "bob")}, []api.Change{gone("al"), now("cy", 7), now("dan", 12), now("flo", 14)}, "one goes, and three come"},
		{"dan", []api.Event{show(some("al", 0, 9)), show(some("bob", 0, 9)), leave("eve", 1)}, nil, "dan sees nobody"},
		{"bob", []api.Event{other(api.Unsubscribe, "bob", "al")}, []api.Change{gone("al")}, "bob does not want to see al"},
		{"bob", []api.Event{other(api.Unsubscribed, "al", "bob")}, []api.Change{gone("al")}, "al does not want to be seen"},
		{"al", []api.Event{other(api.Unsubscribed, "al", "bob")}, nil, "what al sees stays"},
	} {
		a := base(t)
		b := after(t, a, c.events...)
		if got := Between(a, b, c.w); !slices.Equal(got, c.want) {
			t.Errorf("P15.3: case %d: %v, not %v, though %s", i, got, c.want, c.because)
		}
		// The way back.
		var back []api.Change
		for _, x := range c.want {
			v, ok := seenAt(a, c.w, x.Contact)
			back = append(back, api.Change{Contact: x.Contact, On: ok, Value: v})
		}
		if got := Between(b, a, c.w); !slices.Equal(got, back) {
			t.Errorf("P15.3: case %d: back: %v, not %v", i, got, back)
		}
		for _, w := range users() {
			if got := Between(b, clone(b), w); len(got) != 0 {
				t.Errorf("P15.3: case %d: of a state and itself, for %q: %v", i, w, got)
			}
		}
	}
}

// TestBlockAndUnblock: by either side; each sees the other one, or did, till one blocks.
func TestBlockAndUnblock(t *testing.T) {
	s := after(t, api.State{}, slices.Concat(follow("a", "b"), follow("b", "a"), []api.Event{show(some("a", 0, 1)), show(some("b", 0, 2))})...)
	for i, c := range []struct {
		e    api.Event
		sees bool
	}{
		{other(api.Block, "a", "b"), false},
		{other(api.Block, "b", "a"), false},
		{other(api.Unblock, "a", "b"), false},
		{show(some("b", 0, 2)), false},
		{other(api.Unblock, "b", "a"), true},
		{other(api.Block, "b", "a"), false},
		{other(api.Unblock, "b", "a"), true},
	} {
		behind := after(t, s, c.e)
		for _, p := range []struct {
			w, c string
			n    int
		}{{"a", "b", 2}, {"b", "a", 1}} {
			_, was := Value(s, p.w, p.c)
			v, is := Value(behind, p.w, p.c)
			if is != c.sees || is && v != presence(p.n) || len(Of(behind, p.w)) != len(Watchers(behind, p.c)) || (len(Of(behind, p.w)) == 1) != c.sees {
				t.Errorf("P15.4: case %d: %s sees %s: %v, %v", i, p.w, p.c, v, is)
			}
			var want []api.Change
			if was && !is {
				want = []api.Change{gone(p.c)}
			} else if is && !was {
				want = []api.Change{now(p.c, p.n)}
			}
			if got := Between(s, behind, p.w); !slices.Equal(got, want) {
				t.Errorf("P15.4: case %d: %s is told %v, not %v", i, p.w, got, want)
			}
		}
		s = behind
	}
}

// TestEventsOfWhomAWatcherDoesNotSee: change nothing of what it sees.
func TestEventsOfWhomAWatcherDoesNotSee(t *testing.T) {
	s := base(t)
	was := Of(s, "bob")
	for i, e := range []api.Event{
		show(some("zoe", 0, 9)), show(some("zoe", 1, 9)), leave("zoe", 1), leave("zoe", 0), show(some("new", 0, 9)),
		show(some("dan", 0, 9)), leave("dan", 1), show(some("eve", 0, 9)), leave("eve", 1), show(some("flo", 2, 9)), leave("flo", 1),
		show(some("bob", 0, 9)), leave("bob", 1),
		other(api.Subscribe, "zoe", "bob"), other(api.Subscribed, "bob", "zoe"), other(api.Subscribe, "zoe", "al"), other(api.Subscribed, "al", "zoe"), other(api.Block, "zoe", "al"),
		other(api.Block, "bob", "zoe"), other(api.Block, "eve", "al"), other(api.Unsubscribe, "al", "bob"), other(api.Subscribe, "new", "eve"), other(api.Block, "zoe", "bob"),
	} {
		s = after(t, s, e)
		if got := Of(s, "bob"); !slices.Equal(got, was) {
			t.Errorf("P15.4: case %d: %v changes what bob sees: %v", i, e, got)
		}
	}
}

// TestEventsOfWhomAWatcherSees: change that row alone, of those alone who watch.
func TestEventsOfWhomAWatcherSees(t *testing.T) {
	s := after(t, api.State{}, slices.Concat(follow("w", "a"), follow("w", "b"), follow("w", "c"), follow("x", "b"), follow("y", "a"))...)
	s = after(t, s, show(some("a", 0, 1)), show(some("b", 0, 2)), show(some("c", 0, 3)))
	for i, c := range []struct {
		e        api.Event
		want     []api.Change
		watchers []string
	}{
		{show(some("b", 0, 20)), []api.Change{now("b", 20)}, []string{"w", "x"}},
		{show(some("a", 0, 10)), []api.Change{now("a", 10)}, []string{"w", "y"}},
		{show(some("c", 1, 30)), []api.Change{{Contact: "c", On: true, Value: api.Value{Show: 4, Prio: -98, Since: 30000, Status: presence(30).Status}}}, []string{"w"}},
		{leave("c", 0), []api.Change{now("c", 30)}, []string{"w"}},
		{leave("b", 0), []api.Change{gone("b")}, []string{"w", "x"}},
		{show(some("b", 3, 21)), []api.Change{now("b", 21)}, []string{"w", "x"}},
		{other(api.Block, "b", "x"), []api.Change{gone("b")}, []string{"x"}},
		{show(some("b", 3, 22)), []api.Change{now("b", 22)}, []string{"w"}},
		{other(api.Unblock, "b", "x"), []api.Change{now("b", 22)}, []string{"x"}},
		{other(api.Unsubscribe, "w", "b"), []api.Change{gone("b")}, []string{"w"}},
		{leave("b", 3), []api.Change{gone("b")}, []string{"x"}},
	} {
		behind := after(t, s, c.e)
		for _, w := range []string{"a", "b", "c", "w", "x", "y", "zoe"} {
			var want []api.Change
			if slices.Contains(c.watchers, w) {
				want = c.want
			}
			if got := Between(s, behind, w); !slices.Equal(got, want) {
				t.Errorf("P15.4: case %d: of %v %s is told %v, not %v", i, c.e, w, got, want)
			}
		}
		s = behind
	}
}

// few: users of the random events.
var few = []string{"a", "b", "c", "aa", "bb", "ab"}

// event: one of few users.
func event(r *rand.Rand) api.Event {
	kinds := []int{1, 2, 1, 2, 3, 4, 5, 6, 6, 7, 7, 7, 8, 8}
	v := api.Value{Show: 1 + r.Intn(4), Prio: r.Intn(3) - 1, Since: r.Intn(3), Status: strings.Repeat("x", r.Intn(2))}
	return api.Event{Kind: kinds[r.Intn(len(kinds))], User: few[r.Intn(len(few))], Other: few[r.Intn(len(few))], Id: r.Intn(4), Value: v}
}

// check: all that is told of s, against the oracle.
func check(t *testing.T, s api.State) {
	t.Helper()
	watchers := map[string][]string{}
	for _, c := range append(few, "new", "") {
		watchers[c] = Watchers(s, c)
		if !slices.Equal(watchers[c], watching(s, c)) {
			t.Fatalf("P15.2: Watchers of %q in %v: %q", c, s, watchers[c])
		}
	}
	for _, w := range append(few, "new", "") {
		view := Of(s, w)
		if !slices.Equal(view, wanted(s, w)) {
			t.Fatalf("P15.2: Of %q in %v: %v", w, s, view)
		}
		if !digest.May(view) {
			t.Fatalf("P15.4: the view of %q in %v may not be a table: %v", w, s, view)
		}
		for _, c := range append(few, "new", "") {
			got, ok := Value(s, w, c)
			if want, is := seenAt(s, w, c); got != want || ok != is {
				t.Fatalf("P15.1: Value of %q and %q in %v: %v, %v", w, c, s, got, ok)
			}
			if v, is := best.Value(sess.Of(s.Sessions, c)); ok != (is && rost.Sees(s.Entries, w, c)) || ok && got != v {
				t.Fatalf("P15.1: Value of %q and %q in %v: %v, %v", w, c, s, got, ok)
			}
			if slices.Contains(watchers[c], w) != ok || slices.Contains(view, api.Seen{Contact: c, Value: got}) != ok {
				t.Fatalf("P15.2: %q sees %q in %v: %v", w, c, s, ok)
			}
		}
	}
}

// checkEvent: that e, which made b of a, changes the views of those alone whom it may, and there the rows of those alone.
func checkEvent(t *testing.T, e api.Event, a, b api.State) int {
	t.Helper()
	touched, count := state.Touches(e), 0
	for _, w := range append(few, "new") {
		changes := Between(a, b, w)
		count += len(changes)
		if !slices.Equal(changes, digest.Changes(wanted(a, w), wanted(b, w))) {
			t.Fatalf("P15.3: of %v, for %q: %v", e, w, changes)
		}
		view := Of(a, w)
		for _, c := range changes {
			view = digest.Set(view, c)
			if !slices.Contains(touched, c.Contact) {
				t.Fatalf("P15.4: %v changes what %q sees of %q", e, w, c.Contact)
			}
		}
		if !slices.Equal(view, Of(b, w)) {
			t.Fatalf("P15.3: of %v, for %q: %v make %v, not %v", e, w, changes, view, Of(b, w))
		}
		watches := slices.Contains(touched, w)
		for _, c := range touched {
			watches = watches || slices.Contains(Watchers(a, c), w) || slices.Contains(Watchers(b, c), w)
		}
		if len(changes) > 0 && !watches {
			t.Fatalf("P15.4: %v changes what %q sees: %v", e, w, changes)
		}
	}
	return count
}

// known: a state in which many of few see one another.
func known(r *rand.Rand) api.State {
	var s api.State
	for _, w := range few {
		for _, c := range few {
			if r.Intn(2) == 0 {
				s, _ = state.All(s, follow(w, c))
			}
		}
	}
	return s
}

func TestManyEvents(t *testing.T) {
	r := rand.New(rand.NewSource(1))
	changed := 0
	for range 12 {
		s := known(r)
		for range 60 {
			e := event(r)
			behind, _ := state.Apply(s, e)
			check(t, behind)
			changed += checkEvent(t, e, s, behind)
			s = behind
		}
	}
	if changed < 300 {
		t.Errorf("no more than %d rows changed", changed)
	}
}

// TestFarStates: Between of states that have little in common.
func TestFarStates(t *testing.T) {
	r := rand.New(rand.NewSource(2))
	var states []api.State
	for range 40 {
		s := known(r)
		for range 80 {
			s, _ = state.Apply(s, event(r))
		}
		states = append(states, s)
	}
	for _, a := range states {
		for _, b := range states {
			for _, w := range few {
				view := Of(a, w)
				changes := Between(a, b, w)
				for i, c := range changes {
					view = digest.Set(view, c)
					if i > 0 && !ident.Less(changes[i-1].Contact, c.Contact) {
						t.Fatalf("P15.3: %v don't rise", changes)
					}
				}
				if !slices.Equal(view, wanted(b, w)) {
					t.Fatalf("P15.3: %v make of %v no %v", changes, Of(a, w), wanted(b, w))
				}
			}
		}
	}
}

// TestAViewHangsOnNobodyWhomItDoesNotSee: all sessions, and all else, of those may be other.
func TestAViewHangsOnNobodyWhomItDoesNotSee(t *testing.T) {
	r := rand.New(rand.NewSource(3))
	for range 60 {
		s := known(r)
		for range 120 {
			s, _ = state.Apply(s, event(r))
		}
		for _, w := range few {
			view := Of(s, w)
			isSeen := func(c string) bool { return rost.Sees(s.Entries, w, c) }
			less, more := clone(s), clone(s)
			less.Sessions = slices.DeleteFunc(less.Sessions, func(x api.Session) bool { return !isSeen(x.User) })
			less.Entries = slices.DeleteFunc(less.Entries, func(e api.Entry) bool { return e.Owner != w && e.Contact != w })
			for i, x := range more.Sessions {
				if !isSeen(x.User) {
					more.Sessions[i].Value = api.Value{Show: 1 + (x.Value.Show % 4), Prio: 100, Since: 100, Status: "secret"}
				}
			}
			for i, turned := range []api.State{less, more} {
				if got := Of(turned, w); !slices.Equal(got, view) {
					t.Fatalf("P15.4: case %d: the view of %q of %v is %v, of %v %v", i, w, s, view, turned, got)
				}
			}
		}
	}
}

// TestRowsStopWhenNoMoreAreAsked: as they are ranged over.
func TestRowsStopWhenNoMoreAreAsked(t *testing.T) {
	s := after(t, api.State{}, slices.Concat(follow("w", "a"), follow("w", "b"), follow("w", "c"))...)
	s = after(t, s, show(some("a", 0, 1)), show(some("b", 0, 2)), show(some("c", 0, 3)))
	var got []string
	for c := range seen(s, "w") {
		got = append(got, c)
		if len(got) == 2 {
			break
		}
	}
	if !slices.Equal(got, []string{"a", "b"}) {
		t.Errorf("P15.2: %q", got)
	}
}

// roomy: l with room behind it, that holds what is not to be written over.
func roomy[T any](l []T, behind T) []T {
	more := append(slices.Clone(l), behind, behind, behind)
	return more[:len(l)]
}

// TestNothingHandedInIsChanged: also not what lies behind it in the same memory.
func TestNothingHandedInIsChanged(t *testing.T) {
	guardE, guardS := on("guard", "guarded", blocks), some("guard", 1, 1)
	for _, s := range append(mayNots(base(t)), base(t), api.State{}) {
		was := clone(s)
		s = api.State{Entries: roomy(s.Entries, guardE), Sessions: roomy(s.Sessions, guardS)}
		next := base(t)
		for _, w := range users() {
			Of(s, w)
			Watchers(s, w)
			Between(s, next, w)
			Between(next, s, w)
			Value(s, w, "al")
			Value(s, "bob", w)
		}
		if !slices.Equal(s.Entries, was.Entries) || !slices.Equal(s.Sessions, was.Sessions) {
			t.Errorf("R5: %v was changed to %v", was, s)
		}
		for i := range 3 {
			if s.Entries[:len(s.Entries)+3][len(s.Entries)+i] != guardE || s.Sessions[:len(s.Sessions)+3][len(s.Sessions)+i] != guardS {
				t.Error("R5: what lies behind the lists was changed")
			}
		}
	}
}

// TestAnswersAreNewMemory: whatever is done to one, or to what was handed in, all later ones are as ever.
func TestAnswersAreNewMemory(t *testing.T) {
	s := base(t)
	view, watchers, changes := Of(s, "bob"), Watchers(s, "al"), Between(api.State{}, s, "bob")
	kept := []api.Seen{view[0]}
	again := Of(s, "bob")
	view[0], watchers[0], changes[0] = api.Seen{}, "", api.Change{}
	if !slices.Equal(again, kept) || !slices.Equal(Of(s, "bob"), kept) || !slices.Equal(Watchers(s, "al"), []string{"bob"}) || Between(api.State{}, s, "bob")[0].Contact != "al" {
		t.Error("R5: an answer was changed by what was done to another one")
	}
	for i := range s.Sessions {
		s.Sessions[i] = api.Session{}
	}
	for i := range s.Entries {
		s.Entries[i] = api.Entry{}
	}
	if !slices.Equal(again, kept) {
		t.Errorf("R5: an answer was changed with what was handed in: %v", again)
	}
	if got := Of(base(t), "bob"); !slices.Equal(got, kept) {
		t.Errorf("R6: of the same state: %v, not %v", got, kept)
	}
}

// TestListsMayBeNil: or not, where they are empty.
func TestListsMayBeNil(t *testing.T) {
	none := api.State{Entries: []api.Entry{}, Sessions: []api.Session{}}
	s := base(t)
	for i, a := range []api.State{{}, none, {Entries: none.Entries}, {Sessions: none.Sessions}} {
		if v, ok := Value(a, "bob", "al"); ok || v != (api.Value{}) {
			t.Errorf("P15.1: case %d: %v", i, v)
		}
		if len(Of(a, "bob")) != 0 || len(Watchers(a, "al")) != 0 || len(Between(a, none, "bob")) != 0 {
			t.Errorf("P15.2: case %d: something of nothing", i)
		}
		if got := Between(a, s, "al"); !slices.Equal(got, []api.Change{now("bob", 11)}) {
			t.Errorf("P15.3: case %d: %v", i, got)
		}
		if got := Between(s, a, "al"); !slices.Equal(got, []api.Change{gone("bob")}) {
			t.Errorf("P15.3: case %d: %v", i, got)
		}
	}
}

func TestMuchIsDoneSoon(t *testing.T) {
	start := time.Now()
	var s api.State
	for n := range 600 {
		s.Entries = append(s.Entries, on(name(n), "hub"+name(n/16), to))
	}
	for n := range 600 {
		s.Entries = append(s.Entries, on("hub"+name(n/16), name(n), from))
	}
	for n := range 32 {
		s.Sessions = append(s.Sessions, some("hub"+name(n/4), n%4, n))
	}
	rows := 0
	for n := range 600 {
		rows += len(Of(s, name(n))) + len(Watchers(s, "hub"+name(n))) + len(Between(api.State{}, s, name(n)))
	}
	if rows != 384 {
		t.Errorf("P15.2: %d rows", rows)
	}
	if took := time.Since(start); took > 20*time.Second {
		t.Errorf("R1: many views took %v", took)
	}
}
