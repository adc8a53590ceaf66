package queue

import (
	"math"
	"math/rand"
	"slices"
	"strings"
	"testing"
	"time"

	"rollcall/api"
	"rollcall/digest"
	"rollcall/ident"
)

var (
	here = api.Value{Show: api.Online, Since: 5}
	away = api.Value{Show: api.Away, Prio: -3, Since: 300, Status: "lunch"}
)

// wrongNames: texts that are no names.
var wrongNames = []string{"", "A", "Ann", "1", "-a", "a_b", "a b", "a\xff", "\u00e9", "a\x00", strings.Repeat("a", 17), strings.Repeat("a", 1000)}

// wrongValues: values that may not be.
var wrongValues = []api.Value{
	{}, {Show: -1}, {Show: 5}, {Prio: 3}, {Since: 5}, {Status: "lunch"},
	{Show: 4, Prio: -129}, {Show: 4, Prio: 128}, {Show: 4, Since: -1}, {Show: 4, Since: 1<<40 + 1},
	{Show: 4, Status: "\n"}, {Show: 4, Status: "\x7f"}, {Show: 4, Status: strings.Repeat("s", 33)},
	{Show: math.MinInt, Prio: math.MaxInt, Since: math.MinInt},
}

// goodValues: values that may be, at the ends of each field.
var goodValues = []api.Value{
	here, away, {Show: 1}, {Show: 4}, {Show: 2, Prio: -128}, {Show: 3, Prio: 127}, {Show: 4, Since: 1 << 40}, {Show: 1, Status: " ~"}, {Show: 1, Status: strings.Repeat("s", 32)},
}

// on: that contact is seen at v.
func on(contact string, v api.Value) api.Change {
	return api.Change{Contact: contact, On: true, Value: v}
}

// off: that contact is seen no more.
func off(contact string) api.Change {
	return api.Change{Contact: contact}
}

// nth: a change of that contact, that tells of n.
func nth(contact string, n int) api.Change {
	return on(contact, api.Value{Show: 1 + n%4, Prio: n%256 - 128, Since: n})
}

// name: one of many names, one of its own of each n.
func name(n int) string {
	s := ""
	for ; n >= 26; n /= 26 {
		s += string(rune('a' + n%26))
	}
	return string(rune('a'+n)) + s
}

// of: a queue of these changes.
func of(l ...api.Change) api.Queue {
	return api.Queue{List: l}
}

// latched: a queue of these changes that is Latched.
func latched(l ...api.Change) api.Queue {
	return api.Queue{List: l, Latched: true}
}

// many: a queue of so many changes, each of another Contact.
func many(count int) api.Queue {
	var q api.Queue
	for n := range count {
		q.List = append(q.List, nth(name(n), n))
	}
	return q
}

// random: up to most changes of few Contacts, names or not.
func random(r *rand.Rand, most int) api.Queue {
	q := api.Queue{Latched: r.Intn(4) == 0}
	for range r.Intn(most + 1) {
		q.List = append(q.List, randomChange(r))
	}
	return q
}

// randomChange: of few Contacts, one that may be or not.
func randomChange(r *rand.Rand) api.Change {
	contacts := []string{"a", "b", "c", "aa", "ann", "bob", "", "A"}
	values := []api.Value{here, away, {}, {Show: 7}}
	return api.Change{Contact: contacts[r.Intn(len(contacts))], On: r.Intn(2) == 0, Value: values[r.Intn(len(values))]}
}

// goodChange: of few Contacts, one that may be.
func goodChange(r *rand.Rand) api.Change {
	contact := name(r.Intn(12))
	if r.Intn(3) == 0 {
		return off(contact)
	}
	return nth(contact, r.Intn(500))
}

// clone: q in memory of its own.
func clone(q api.Queue) api.Queue {
	q.List = slices.Clone(q.List)
	return q
}

// same: whether a and b are, nil or not where there is no change.
func same(a, b api.Queue) bool {
	return a.Latched == b.Latched && slices.Equal(a.List, b.List)
}

// roomy: q with spare memory behind its changes, all of it filled with spoil.
func roomy(q api.Queue) (api.Queue, []api.Change) {
	all := make([]api.Change, len(q.List)+8)
	for i := range all {
		all[i] = on("spare", away)
	}
	copy(all, q.List)
	return api.Queue{List: all[:len(q.List)], Latched: q.Latched}, all
}

func TestOne(t *testing.T) {
	for _, contact := range []string{"a", "z", "ann", "k9-2", "a-", "a0", strings.Repeat("z", 16)} {
		if !One(off(contact)) {
			t.Errorf("P17.1: %q, that is seen no more, may not be", contact)
		}
		for _, v := range goodValues {
			if !One(on(contact, v)) {
				t.Errorf("P17.1: %q at %v may not be", contact, v)
			}
			if c := (api.Change{Contact: contact, Value: v}); One(c) {
				t.Errorf("P17.1: %v may be, though it is not On, and its Value is not zero", c)
			}
		}
		for _, v := range wrongValues {
			if One(on(contact, v)) {
				t.Errorf("P17.1: %q at %v may be", contact, v)
			}
			if c := (api.Change{Contact: contact, Value: v}); One(c) != (v == api.Value{}) {
				t.Errorf("P17.1: %v: %v", c, One(c))
			}
		}
	}
	for _, contact := range wrongNames {
		if One(off(contact)) || One(on(contact, here)) || One(on(contact, api.Value{})) || One(api.Change{Contact: contact, Value: here}) {
			t.Errorf("P17.1: a change of %q may be", contact)
		}
	}
	if One(api.Change{}) || One(api.Change{On: true}) {
		t.Error("P17.1: a change of nobody may be")
	}
}

func TestMay(t *testing.T) {
	for i, x := range []struct {
		q       api.Queue
		room    int
		want    bool
		because string
	}{
		{api.Queue{}, 0, true, "it has none"},
		{api.Queue{}, 1, true, "it has none"},
		{api.Queue{List: []api.Change{}}, 0, true, "it has none"},
		{api.Queue{}, -1, false, "it has more than the room"},
		{api.Queue{}, math.MinInt, false, "it has more than the room"},
		{latched(), -1, false, "it has more than the room"},
		{latched(), 0, true, "it has none, Latched"},
		{latched(), 1, true, "it has none, Latched"},
		{latched(), 16, true, "it has none, Latched"},
		{latched(off("a")), 16, false, "it has one, Latched"},
		{latched(on("a", here), off("b")), 16, false, "it has two, Latched"},
		{of(off("a")), 0, false, "it has one, and there is no room"},
		{of(off("a")), 1, true, "it has one"},
		{of(on("a", here)), 1, true, "it has one"},
		{of(on("a", here)), math.MaxInt, true, "it has one"},
		{of(on("b", here), off("a")), 2, true, "changes stand in any order"},
		{of(on("b", here), off("a")), 1, false, "it has one more than the room"},
		{of(on("a", here), off("a")), 16, false, "two are of one Contact"},
		{of(on("a", here), on("a", here)), 16, false, "two are the same"},
		{of(off("a"), off("b"), off("a")), 16, false, "two are of one Contact, one between them"},
		{of(off("a"), off("b"), off("b")), 16, false, "two are of one Contact"},
		{of(off("a"), off("aa"), off("aaa")), 16, true, "no two are of one Contact"},
		{of(off("a"), off("")), 16, false, "one may not be"},
		{of(off("A"), off("a")), 16, false, "one may not be"},
		{of(on("a", here), on("b", api.Value{})), 16, false, "one may not be"},
		{of(on("a", here), api.Change{Contact: "b", Value: here}), 16, false, "one may not be"},
	} {
		if got := May(x.q, x.room); got != x.want {
			t.Errorf("P17.1: case %d: %v of room %d: %v, though %s", i, x.q, x.room, got, x.because)
		}
	}
}

// TestMayOfEachRoom: of as many changes as the room, of fewer, and of more.
func TestMayOfEachRoom(t *testing.T) {
	for room := range 40 {
		for count := range 40 {
			if got := May(many(count), room); got != (count <= room) {
				t.Errorf("P17.1: %d changes of room %d: %v", count, room, got)
			}
		}
	}
	for _, room := range []int{499, 500, 501} {
		if got := May(many(500), room); got != (room >= 500) {
			t.Errorf("P17.1: 500 changes of room %d: %v", room, got)
		}
	}
}

// TestMayOfEachPlace: one change that may not be, or that is of a Contact that is there, at each place.
func TestMayOfEachPlace(t *testing.T) {
	for at := range 16 {
		for _, wrong := range []api.Change{{}, off("A"), on("zz", api.Value{}), {Contact: "zz", Value: here}} {
			q := many(16)
			q.List[at] = wrong
			if May(q, 16) {
				t.Errorf("P17.1: %v may be, though %v may not", q, wrong)
			}
		}
		for other := range 16 {
			q := many(16)
			q.List[at].Contact = q.List[other].Contact
			if May(q, 16) != (at == other) {
				t.Errorf("P17.1: %v: %v", q, at == other)
			}
		}
	}
}

func TestEmpty(t *testing.T) {
	for i, x := range []struct {
		q    api.Queue
		want bool
	}{
		{api.Queue{}, true}, {api.Queue{List: []api.Change{}}, true}, {latched(), false}, {latched(off("a")), false},
		{of(off("a")), false}, {of(on("a", here)), false}, {of(api.Change{}), false}, {many(16), false},
	} {
		if got := Empty(x.q); got != x.want {
			t.Errorf("P17.1: case %d: Empty of %v: %v", i, x.q, got)
		}
	}
}

func TestFind(t *testing.T) {
	q := of(on("b", here), off("a"), on("ann", away), off("b"), on("a", here), on("", here), api.Change{Contact: "A", Value: away})
	for i, x := range []struct {
		contact string
		want    api.Change
		ok      bool
	}{
		{"b", on("b", here), true}, {"a", off("a"), true}, {"ann", on("ann", away), true},
		{"", on("", here), true}, {"A", api.Change{Contact: "A", Value: away}, true},
		{"c", api.Change{}, false}, {"an", api.Change{}, false}, {"annn", api.Change{}, false}, {"B", api.Change{}, false}, {"a\x00", api.Change{}, false},
	} {
		for _, q := range []api.Queue{q, {List: q.List, Latched: true}} {
			if got, ok := Find(q, x.contact); got != x.want || ok != x.ok {
				t.Errorf("P17.1: case %d: Find of %q: %v, %v", i, x.contact, got, ok)
			}
		}
	}
	for _, contact := range []string{"", "a", "ann"} {
		for _, q := range []api.Queue{{}, latched(), of(off("zz"))} {
			if got, ok := Find(q, contact); got != (api.Change{}) || ok {
				t.Errorf("P17.1: Find of %q in %v: %v, %v", contact, q, got, ok)
			}
		}
	}
}

func TestPush(t *testing.T) {
	for i, x := range []struct {
		q       api.Queue
		c       api.Change
		room    int
		want    api.Queue
		because string
	}{
		{api.Queue{}, off("a"), 1, of(off("a")), "there is room"},
		{api.Queue{}, on("a", here), 16, of(on("a", here)), "there is room"},
		{of(off("b")), on("a", here), 2, of(off("b"), on("a", here)), "it comes behind all"},
		{of(off("b"), off("a")), off("aa"), 16, of(off("b"), off("a"), off("aa")), "it comes behind all"},
		{of(off("a")), off("b"), 1, latched(), "there is no room left"},
		{of(off("a"), off("b")), off("c"), 2, latched(), "there is no room left"},
		{of(off("a"), off("b"), off("c")), off("d"), 2, latched(), "there is less room than changes"},
		{api.Queue{}, off("a"), 0, latched(), "there is no room"},
		{api.Queue{}, off("a"), -1, latched(), "there is no room"},
		{api.Queue{}, off("a"), math.MinInt, latched(), "there is no room"},
		{of(off("a"), off("b")), on("a", here), 2, of(on("a", here), off("b")), "it waits already, first"},
		{of(on("a", here), off("b")), off("a"), 2, of(off("a"), off("b")), "it waits already, first"},
		{of(off("a"), off("b"), off("c")), on("b", away), 16, of(off("a"), on("b", away), off("c")), "it waits already, between others"},
		{of(off("a"), off("b"), off("c")), on("c", away), 3, of(off("a"), off("b"), on("c", away)), "it waits already, last"},
		{of(on("a", here)), on("a", here), 1, of(on("a", here)), "it waits already, the same"},
		{of(off("a")), on("a", here), 0, of(on("a", here)), "it waits already, of no room"},
		{of(off("a"), off("b")), on("b", here), 1, of(off("a"), on("b", here)), "it waits already, of less room than changes"},
		{of(off("a")), on("a", here), -5, of(on("a", here)), "it waits already, of no room"},
		{of(off("a"), off("b"), off("a")), on("a", here), 3, of(on("a", here), off("b"), off("a")), "the first of two of one Contact"},
		{of(off("a"), off("a"), off("a")), on("a", here), 1, of(on("a", here), off("a"), off("a")), "the first of three of one Contact"},
		{of(off("A"), on("", api.Value{})), on("b", here), 3, of(off("A"), on("", api.Value{}), on("b", here)), "changes that may not be"},
		{of(off("A"), on("", api.Value{})), on("", here), 2, of(off("A"), on("", here)), "a change that may not be, instead of another one"},
		{of(off("A")), on("", here), 1, latched(), "no room left, of changes that may not be"},
		{of(off("a")), api.Change{Contact: "b", Value: here}, 2, of(off("a"), api.Change{Contact: "b", Value: here}), "a change that may not be"},
		{latched(), off("a"), 16, latched(), "it is Latched"},
		{latched(), off("a"), 0, latched(), "it is Latched"},
		{latched(off("a")), on("a", here), 16, latched(off("a")), "it is Latched, with changes"},
		{latched(off("a"), off("b")), on("c", here), 16, latched(off("a"), off("b")), "it is Latched, with changes"},
		{latched(off("a"), off("b")), on("c", here), 2, latched(off("a"), off("b")), "it is Latched, with changes"},
	} {
		if got := Push(x.q, x.c, x.room); !same(got, x.want) {
			t.Errorf("P17.2: case %d: Push of %v into %v of room %d: %v, not %v: %s", i, x.c, x.q, x.room, got, x.want, x.because)
		}
	}
}

// TestExample: as the chapter tells.
func TestExample(t *testing.T) {
	var q api.Queue
	for _, c := range []api.Change{on("a", here), on("b", here), on("a", away)} {
		q = Push(q, c, 16)
	}
	if !same(q, of(on("a", away), on("b", here))) {
		t.Errorf("P17.2: %v", q)
	}
}

// TestPushTillLatched: of each room, one change more than there is room for.
func TestPushTillLatched(t *testing.T) {
	for room := range 40 {
		var q api.Queue
		for n := range room {
			q = Push(q, nth(name(n), n), room)
			if !same(q, many(n+1)) {
				t.Fatalf("P17.2: %d pushed of room %d: %v", n+1, room, q)
			}
		}
		// Whoever waits already finds room, the first one too.
		for n := range room {
			q = Push(q, nth(name(n), n+7), room)
			if c, _ := Find(q, name(n)); len(q.List) != room || q.Latched || c != nth(name(n), n+7) || q.List[n] != c {
				t.Fatalf("P17.2: pushed again into a queue of room %d: %v", room, q)
			}
		}
		q = Push(q, nth(name(room), room), room)
		if !same(q, latched()) {
			t.Errorf("P17.2: %d pushed of room %d: %v", room+1, room, q)
		}
		for n := range room + 2 {
			if q = Push(q, off(name(n)), room); !same(q, latched()) {
				t.Errorf("P17.2: pushed into a Latched queue of room %d: %v", room, q)
			}
		}
	}
}

func TestPop(t *testing.T) {
	for i, x := range []struct {
		q    api.Queue
		c    api.Change
		rest api.Queue
		ok   bool
	}{
		{api.Queue{}, api.Change{}, api.Queue{}, false},
		{latched(), api.Change{}, latched(), false},
		{of(off("a")), off("a"), api.Queue{}, true},
		{of(on("b", away)), on("b", away), api.Queue{}, true},
		{of(on("b", away), off("a")), on("b", away), of(off("a")), true},
		{of(off("a"), off("b"), on("a", here)), off("a"), of(off("b"), on("a", here)), true},
		{of(off("a"), off("a")), off("a"), of(off("a")), true},
		{of(api.Change{}), api.Change{}, api.Queue{}, true},
		{latched(off("a")), off("a"), latched(), true},
		{latched(off("a"), on("b", here)), off("a"), latched(on("b", here)), true},
	} {
		if c, rest, ok := Pop(x.q); c != x.c || !same(rest, x.rest) || ok != x.ok {
			t.Errorf("P17.3: case %d: Pop of %v: %v, %v, %v", i, x.q, c, rest, ok)
		}
	}
	q := many(100)
	for n := range 100 {
		c, rest, ok := Pop(q)
		if c != nth(name(n), n) || len(rest.List) != 99-n || !ok {
			t.Fatalf("P17.3: the change number %d of many: %v, %v", n, c, ok)
		}
		q = rest
	}
	if c, rest, ok := Pop(q); c != (api.Change{}) || !Empty(rest) || ok {
		t.Errorf("P17.3: behind the last of many: %v, %v, %v", c, rest, ok)
	}
}

func TestOver(t *testing.T) {
	ann, bob := api.Seen{Contact: "ann", Value: here}, api.Seen{Contact: "bob", Value: away}
	for i, x := range []struct {
		t    []api.Seen
		q    api.Queue
		want []api.Seen
	}{
		{nil, api.Queue{}, nil},
		{nil, latched(), nil},
		{nil, of(on("ann", here)), []api.Seen{ann}},
		{nil, of(off("ann")), nil},
		{nil, of(on("bob", away), on("ann", here)), []api.Seen{ann, bob}},
		{[]api.Seen{ann, bob}, api.Queue{}, []api.Seen{ann, bob}},
		{[]api.Seen{ann, bob}, latched(), []api.Seen{ann, bob}},
		{[]api.Seen{ann, bob}, of(off("ann")), []api.Seen{bob}},
		{[]api.Seen{ann, bob}, of(off("bob")), []api.Seen{ann}},
		{[]api.Seen{ann, bob}, of(off("z")), []api.Seen{ann, bob}},
		{[]api.Seen{ann, bob}, of(off("bob"), off("ann")), nil},
		{[]api.Seen{ann, bob}, of(on("ann", away)), []api.Seen{{Contact: "ann", Value: away}, bob}},
		{[]api.Seen{ann, bob}, of(on("c", here)), []api.Seen{{Contact: "c", Value: here}, ann, bob}},
		// One behind the other: the last of one Contact holds.
		{[]api.Seen{ann}, of(on("bob", here), on("bob", away)), []api.Seen{ann, bob}},
		{[]api.Seen{ann}, of(on("bob", away), off("bob")), []api.Seen{ann}},
		{[]api.Seen{ann}, of(off("ann"), on("bob", away), on("ann", here)), []api.Seen{ann, bob}},
		// Of a Latched queue with changes too, and of what may not be.
		{[]api.Seen{ann}, latched(on("bob", away)), []api.Seen{ann, bob}},
		{[]api.Seen{ann}, of(api.Change{Contact: "A", On: true}), []api.Seen{{Contact: "A"}, ann}},
		{[]api.Seen{bob, ann, bob}, of(off("bob")), []api.Seen{ann}},
	} {
		if got := Over(x.t, x.q); !slices.Equal(got, x.want) {
			t.Errorf("P17.4: case %d: Over of %v and %v: %v, not %v", i, x.t, x.q, got, x.want)
		}
	}
}

// TestOverAgainstSet: of any tables and queues.
func TestOverAgainstSet(t *testing.T) {
	r := rand.New(rand.NewSource(2))
	for range 3000 {
		var table []api.Seen
		for _, c := range random(r, 6).List {
			table = append(table, api.Seen{Contact: c.Contact, Value: c.Value})
		}
		q := random(r, 6)
		want := table
		for _, c := range q.List {
			want = digest.Set(want, c)
		}
		if got := Over(table, q); !slices.Equal(got, want) {
			t.Fatalf("P17.4: Over of %v and %v: %v, not %v", table, q, got, want)
		}
	}
}

// pushed: P17.2 word by word.
func pushed(q api.Queue, c api.Change, room int) api.Queue {
	if q.Latched {
		return q
	}
	var l []api.Change
	had := false
	for _, x := range q.List {
		if !had && x.Contact == c.Contact {
			x, had = c, true
		}
		l = append(l, x)
	}
	switch {
	case had:
		return of(l...)
	case len(l) < room:
		return of(append(l, c)...)
	}
	return latched()
}

// may: P17.1 word by word.
func may(q api.Queue, room int) bool {
	for i, c := range q.List {
		if !ident.Is(c.Contact) || !One(c) || q.Latched {
			return false
		}
		for _, x := range q.List[:i] {
			if x.Contact == c.Contact {
				return false
			}
		}
	}
	return len(q.List) <= room
}

// TestAgainstOracles: of any queues, that may be or not.
func TestAgainstOracles(t *testing.T) {
	r := rand.New(rand.NewSource(3))
	for range 20000 {
		q, c, room := random(r, 5), randomChange(r), r.Intn(8)-1
		if got, want := Push(q, c, room), pushed(q, c, room); !same(got, want) {
			t.Fatalf("P17.2: Push of %v into %v of room %d: %v, not %v", c, q, room, got, want)
		}
		if got, want := May(q, room), may(q, room); got != want {
			t.Fatalf("P17.1: May of %v of room %d: %v", q, room, got)
		}
		at := slices.IndexFunc(q.List, func(x api.Change) bool { return x.Contact == c.Contact })
		if got, ok := Find(q, c.Contact); ok != (at >= 0) || ok && got != q.List[at] || !ok && got != (api.Change{}) {
			t.Fatalf("P17.1: Find of %q in %v: %v, %v", c.Contact, q, got, ok)
		}
	}
}

// TestWhatMayBeStaysSo: whatever is pushed and popped, of each room.
func TestWhatMayBeStaysSo(t *testing.T) {
	r := rand.New(rand.NewSource(4))
	for range 2000 {
		var q api.Queue
		room := r.Intn(17)
		for range 30 {
			if r.Intn(4) > 0 {
				q = Push(q, goodChange(r), room)
			} else {
				_, q, _ = Pop(q)
			}
			if !May(q, room) {
				t.Fatalf("P17.5: %v of room %d may not be", q, room)
			}
			if q.Latched {
				break
			}
		}
	}
}

// TestWhatWaitsIsWhatIsSeen: what was told, with what waits over it, is the view, as long as it is not Latched.
func TestWhatWaitsIsWhatIsSeen(t *testing.T) {
	r := rand.New(rand.NewSource(5))
	for range 1000 {
		var q api.Queue
		var told, seen []api.Seen
		room := 1 + r.Intn(16)
		for range 60 {
			if r.Intn(3) > 0 {
				c := goodChange(r)
				seen, q = digest.Set(seen, c), Push(q, c, room)
			} else if c, rest, ok := Pop(q); ok {
				told, q = digest.Set(told, c), rest
			}
			if q.Latched {
				break
			}
			if got := Over(told, q); !slices.Equal(got, seen) {
				t.Fatalf("P17.5: %v over %v: %v, not %v", q, told, got, seen)
			}
		}
	}
}

// TestArgumentsStay: what was handed in is as it was, and what stands in spare memory behind it.
func TestArgumentsStay(t *testing.T) {
	r := rand.New(rand.NewSource(6))
	for range 3000 {
		was, c := random(r, 5), randomChange(r)
		q, all := roomy(was)
		table := []api.Seen{{Contact: "a", Value: here}, {Contact: "ann", Value: away}, {Contact: "spare"}}
		room := r.Intn(8)
		first := Push(q, c, room)
		want := clone(first)
		Push(q, on("other", here), 16)
		Push(first, off("more"), 16)
		Push(first, off(c.Contact), 16)
		_, rest, _ := Pop(q)
		Push(rest, off("last"), 16)
		Over(table[:2], q)
		Over(table[:2], of(on("b", here), off("a")))
		May(q, room)
		Find(q, c.Contact)
		if !same(q, was) || !slices.Equal(all[len(was.List):], slices.Repeat([]api.Change{on("spare", away)}, 8)) {
			t.Fatalf("R5: %v is %v now", was, all)
		}
		if !same(first, want) {
			t.Fatalf("R5: what was answered, %v, is %v now", want, first)
		}
		if !slices.Equal(table, []api.Seen{{Contact: "a", Value: here}, {Contact: "ann", Value: away}, {Contact: "spare"}}) {
			t.Fatalf("R5: the table is %v now", table)
		}
	}
}

// TestAnswersAreTheirOwn: what is written into an answer that has changed is not seen in what was handed in.
func TestAnswersAreTheirOwn(t *testing.T) {
	q := of(off("a"), off("b"), off("c"))
	_, rest, _ := Pop(q)
	for _, got := range []api.Queue{Push(q, on("a", here), 3), Push(q, on("d", here), 4), rest} {
		for i := range got.List {
			got.List[i] = on("z", away)
		}
	}
	if !same(q, of(off("a"), off("b"), off("c"))) {
		t.Errorf("R5: the queue is %v now", q)
	}
	table := []api.Seen{{Contact: "a", Value: here}}
	for _, waits := range []api.Queue{{}, of(off("z")), of(on("b", here))} {
		Over(table, waits)[0].Contact = "z"
	}
	if table[0].Contact != "a" {
		t.Errorf("R5: the table is %v now", table)
	}
}

// TestAnswersHangOnArgumentsAlone: in whatever order they are asked.
func TestAnswersHangOnArgumentsAlone(t *testing.T) {
	for range 3 {
		q := Push(of(off("a")), on("b", here), 2)
		if !same(q, of(off("a"), on("b", here))) || !May(q, 2) || Empty(q) {
			t.Errorf("R6: %v", q)
		}
		if q := Push(q, off("c"), 2); !same(q, latched()) {
			t.Errorf("R6: %v", q)
		}
		if _, ok := Find(api.Queue{}, "a"); ok || !Empty(api.Queue{}) {
			t.Error("R6: a queue of no changes has one")
		}
	}
}

func TestMuchIsDoneSoon(t *testing.T) {
	start := time.Now()
	const count = 200000
	q := many(count)
	if !May(q, count) || May(q, count-1) {
		t.Error("P17.1: of many changes")
	}
	q.List[count-1].Contact = q.List[0].Contact
	if May(q, count) {
		t.Error("P17.1: of many changes, two of one Contact")
	}
	q = many(count)
	if c, ok := Find(q, name(count-1)); c != q.List[count-1] || !ok {
		t.Errorf("P17.1: %v, %v", c, ok)
	}
	if got := Push(q, off(name(count-1)), count); len(got.List) != count || got.List[count-1] != off(name(count-1)) {
		t.Error("P17.2: into many changes")
	}
	if _, rest, ok := Pop(q); len(rest.List) != count-1 || !ok {
		t.Error("P17.3: out of many changes")
	}
	if took := time.Since(start); took > 20*time.Second {
		t.Errorf("R1: many changes took %v", took)
	}
}
