package rost

import (
	"math"
	"math/rand"
	"slices"
	"strings"
	"testing"
	"time"

	"rollcall/api"
	"rollcall/ident"
	"rollcall/subs"
)

var (
	to     = api.Item{To: true}
	from   = api.Item{From: true}
	both   = api.Item{To: true, From: true}
	out    = api.Item{Out: true}
	in     = api.Item{In: true}
	blocks = api.Item{Block: true}
)

// sixteen: a name of 16 bytes; one more makes it none.
var sixteen = strings.Repeat("z", 16)

// wrongNames: texts that are no names.
var wrongNames = []string{"", "A", "Ann", "1", "-a", "a_b", "a b", "a\xff", "\u00e9", "a\x00", sixteen + "z"}

// on: the entry of owner on contact.
func on(owner, contact string, i api.Item) api.Entry {
	return api.Entry{Owner: owner, Contact: contact, Item: i}
}

// facing: what may face a, of one who does not block.
func facing(a api.Item) api.Item {
	return api.Item{To: a.From, From: a.To, Out: a.In, In: a.Out}
}

// ahead: whether a stands ahead of b, word by word.
func ahead(a, b api.Entry) bool {
	return ident.Less(a.Owner, b.Owner) || a.Owner == b.Owner && ident.Less(a.Contact, b.Contact)
}

// sorted: l, each at its place.
func sorted(l ...api.Entry) []api.Entry {
	l = slices.Clone(l)
	slices.SortFunc(l, func(a, b api.Entry) int {
		if ahead(a, b) {
			return -1
		}
		return 1
	})
	return l
}

// pairs: these entries, and what faces each, each at its place.
func pairs(l ...api.Entry) []api.Entry {
	var all []api.Entry
	for _, e := range l {
		all = append(all, e, on(e.Contact, e.Owner, facing(e.Item)))
	}
	return sorted(all...)
}

// contact: the names number 0, 1, 2 .. in their order, other than single letters.
func contact(n int) string {
	return string([]byte{'c', byte('a' + n/26), byte('a' + n%26)})
}

// crowd: an owner who sees so many.
func crowd(owner string, most int) []api.Entry {
	var l []api.Entry
	for n := range most {
		l = append(l, on(owner, contact(n), to))
	}
	return pairs(l...)
}

// mays: rosters that may be.
func mays() [][]api.Entry {
	l := [][]api.Entry{
		nil, {},
		pairs(on("ann", "bob", to)),
		pairs(on("b", "aa", both)),
		pairs(on("a", sixteen, out)),
		sorted(on("a", "b", blocks), on("b", "a", api.Item{})),
		sorted(on("a", "b", api.Item{}), on("b", "a", blocks)),
		sorted(on("a", "b", blocks), on("b", "a", blocks)),
		sorted(on("a", "b", api.Item{To: true, In: true, Block: true}), on("b", "a", api.Item{From: true, Out: true})),
		pairs(on("a", "b", to), on("b", "c", to), on("c", "a", to)),
		pairs(on("z", "aa", to), on("b", "z", out), on("aa", "b", both)),
		slices.Concat(crowd("a", 16), crowd("b", 0)),
		pairs(append(crowdOf("a", 16), crowdOf("b", 16)...)...),
	}
	for most := range 17 {
		l = append(l, crowd("a", most), crowd("zzzz", most))
	}
	return l
}

// crowdOf: the owner's side of a crowd.
func crowdOf(owner string, most int) []api.Entry {
	return slices.DeleteFunc(crowd(owner, most), func(e api.Entry) bool { return e.Owner != owner })
}

// mayNots: rosters that may not be.
func mayNots() [][]api.Entry {
	ab, ba := on("a", "b", to), on("b", "a", from)
	ac, ca := on("a", "c", to), on("c", "a", from)
	l := [][]api.Entry{
		// One without its counterpart.
		{ab}, {ba}, {ab, ac, ba}, {ab, ac, ca}, {on("a", "b", blocks)}, {on("a", "b", api.Item{})},
		{ab, on("b", "c", to), on("c", "a", from)},
		// Not rising by Owner, or by Contact.
		{ba, ab}, {ac, ab, ba, ca}, {ab, ac, ca, ba}, {ba, ab, ac, ca}, {ba, ca, ab, ac},
		{on("aa", "b", to), on("b", "aa", from)},
		{on("c", "aa", to), on("c", "b", to), on("b", "c", from), on("aa", "c", from)},
		{on("b", "c", from), on("c", "aa", to), on("c", "b", to), on("aa", "c", from)},
		// Twice.
		{ab, ab, ba}, {ab, ba, ba}, {ab, ab, ba, ba}, {ab, ba, ab, ba}, {ab, on("a", "b", both), ba}, {ab, on("a", "b", blocks), ba},
		// Both empty.
		{on("a", "b", api.Item{}), on("b", "a", api.Item{})},
		slices.Concat(sorted(on("a", "b", api.Item{}), on("b", "a", api.Item{})), pairs(on("x", "y", to))),
		// The same.
		{on("a", "a", api.Item{})}, {on("a", "a", both)}, {on("a", "a", blocks)}, {on("a", "a", both), ab, ba}, {on("a", "a", both), on("a", "a", both)},
		sorted(ab, ba, on("b", "b", api.Item{Out: true, In: true})),
		// Items that may not face one another.
		{ab, on("b", "a", to)}, {ab, on("b", "a", api.Item{})}, {on("a", "b", api.Item{}), ba}, {ab, on("b", "a", in)},
		{on("a", "b", out), on("b", "a", out)}, {on("a", "b", in), ba}, {on("a", "b", api.Item{To: true, Out: true}), on("b", "a", api.Item{From: true, In: true})},
		// Too many.
		crowd("a", 17), crowd("zzzz", 17), crowd("a", 18), crowd("a", 40),
		pairs(append(crowdOf("a", 16), crowdOf("b", 17)...)...),
		pairs(append(crowdOf("a", 17), crowdOf("b", 16)...)...),
	}
	for _, s := range wrongNames {
		l = append(l, sorted(on("b", s, to), on(s, "b", from)), sorted(on("b", s, from), on(s, "b", to)), sorted(on(s, s, both)))
		l = append(l, sorted(ab, ba, on("b", s, to), on(s, "b", from)))
	}
	return l
}

// may: whether l may be, word by word.
func may(l []api.Entry) bool {
	count := map[string]int{}
	for i, e := range l {
		count[e.Owner]++
		if !ident.Is(e.Owner) || !ident.Is(e.Contact) || e.Owner == e.Contact || count[e.Owner] > 16 || i > 0 && !ahead(l[i-1], e) {
			return false
		}
		at := slices.IndexFunc(l, func(x api.Entry) bool { return x.Owner == e.Contact && x.Contact == e.Owner })
		if at < 0 || !subs.May(e.Item, l[at].Item) || e.Item == (api.Item{}) && l[at].Item == (api.Item{}) {
			return false
		}
	}
	return true
}

// random: up to most entries of few names, that may be seldom.
func random(r *rand.Rand, most int) []api.Entry {
	names := []string{"a", "b", "c", "aa", "", "A"}
	items := []api.Item{{}, to, from, both, out, in, blocks, {To: true, Block: true}}
	var l []api.Entry
	for range r.Intn(most + 1) {
		l = append(l, on(names[r.Intn(len(names))], names[r.Intn(len(names))], items[r.Intn(len(items))]))
	}
	return l
}

// walk: rosters that come of random events.
func walk(r *rand.Rand, users []string, events int) []api.Entry {
	var l []api.Entry
	for range events {
		l, _ = Do(l, 1+r.Intn(6), users[r.Intn(len(users))], users[r.Intn(len(users))])
	}
	return l
}

func TestMay(t *testing.T) {
	for i, l := range mays() {
		if !May(l) || !may(l) {
			t.Errorf("P8.1: case %d: %v may not be", i, l)
		}
	}
	for i, l := range mayNots() {
		if May(l) || may(l) {
			t.Errorf("P8.1: case %d: %v may be", i, l)
		}
	}
}

func TestMayOfRandomEntries(t *testing.T) {
	r := rand.New(rand.NewSource(1))
	so := 0
	for n := range 60000 {
		l := random(r, 3)
		if n%2 == 0 {
			l = walk(r, []string{"a", "b", "c", "aa"}, 12)
			// Spoilt at one place.
			if len(l) > 0 && n%4 == 0 {
				l[r.Intn(len(l))] = append(random(r, 2), l[r.Intn(len(l))])[0]
			}
		}
		if May(l) != may(l) {
			t.Fatalf("P8.1: May of %v: %v", l, May(l))
		}
		if May(l) && n%4 == 0 && len(l) > 2 {
			so++
		}
	}
	if so < 50 {
		t.Errorf("P8.1: only %d spoilt rosters may be", so)
	}
}

func TestGet(t *testing.T) {
	l := pairs(on("a", "b", to), on("a", "z", both), on("ann", "b", out), on("z", "ann", api.Item{To: true, In: true}))
	for _, e := range l {
		if got := Get(l, e.Owner, e.Contact); got != e.Item {
			t.Errorf("P8.1: Get of %v: %v", e, got)
		}
	}
	for _, c := range [][2]string{{"a", "ann"}, {"a", "c"}, {"b", "b"}, {"b", "z"}, {"", ""}, {"a", ""}, {"", "b"}, {"A", "b"}, {"a", "B"}, {"ab", ""}, {"zz", "a"}} {
		for _, l := range [][]api.Entry{nil, {}, l, pairs(on("x", "y", both))} {
			if got := Get(l, c[0], c[1]); got != (api.Item{}) {
				t.Errorf("P8.1: Get of %q, that are not there: %v", c, got)
			}
		}
	}
}

// odd: rosters that may not be, of which the calls that only look tell none the less.
var odd = []api.Entry{
	{Owner: "b", Contact: "a", Item: api.Item{From: true, Block: true}},
	{Owner: "a", Contact: "b", Item: api.Item{To: true}},
	{Owner: "z", Contact: "a", Item: api.Item{To: true}},
	{Owner: "b", Contact: "a", Item: api.Item{To: true}},
	{Owner: "a", Contact: "a", Item: api.Item{To: true, From: true}},
	{Owner: "c", Contact: "a", Item: api.Item{To: true}},
	{Owner: "", Contact: "a", Item: api.Item{To: true}},
	{Owner: "c", Contact: "a", Item: api.Item{Block: true}},
	{Owner: "A!", Contact: "a", Item: api.Item{To: true}},
	{Owner: "a", Contact: "b", Item: api.Item{Block: true}},
	{Owner: "a", Contact: "A!", Item: api.Item{Block: true}},
	{Owner: "a", Contact: "A!", Item: api.Item{}},
	{Owner: "bb", Contact: "a", Item: api.Item{To: true, Block: true}},
	{Owner: "d", Contact: "", Item: api.Item{To: true}},
}

func TestGetOfRostersThatMayNotBe(t *testing.T) {
	for _, c := range []struct {
		owner, contact string
		want           api.Item
	}{
		{"b", "a", api.Item{From: true, Block: true}},
		{"a", "b", to},
		{"a", "a", both},
		{"c", "a", to},
		{"", "a", to},
		{"A!", "a", to},
		{"a", "A!", blocks},
		{"d", "", to},
		{"", "d", api.Item{}},
	} {
		if got := Get(odd, c.owner, c.contact); got != c.want {
			t.Errorf("P8.1: Get of %q, %q: %v, not %v", c.owner, c.contact, got, c.want)
		}
	}
}

func TestOf(t *testing.T) {
	l := pairs(on("b", "a", to), on("b", "zz", out), on("b", "c", from), on("a", "ann", both))
	for owner, want := range map[string][]string{"b": {"a", "c", "zz"}, "a": {"b", "ann"}, "ann": {"a"}, "c": {"b"}, "d": nil, "": nil, "B": nil, "bb": nil} {
		if got := Of(l, owner); !slices.Equal(got, want) {
			t.Errorf("P8.1: Of %q: %q, not %q", owner, got, want)
		}
	}
	for owner, want := range map[string][]string{"b": {"a", "a"}, "a": {"b", "a", "b", "A!", "A!"}, "": {"a"}, "A!": {"a"}, "d": {""}, "e": nil} {
		if got := Of(odd, owner); !slices.Equal(got, want) {
			t.Errorf("P8.1: Of %q in rosters that may not be: %q, not %q", owner, got, want)
		}
	}
	if got := Of(crowd("a", 17), "a"); len(got) != 17 {
		t.Errorf("P8.1: Of one who has 17: %q", got)
	}
}

func TestSees(t *testing.T) {
	l := sorted(append(pairs(on("a", "b", to), on("b", "c", both), on("c", "d", out)), on("e", "a", api.Item{To: true, Block: true}), on("a", "e", from), on("f", "a", to), on("a", "f", api.Item{From: true, Block: true}))...)
	if !May(l) {
		t.Fatal("rosters that may not be")
	}
	for _, w := range []string{"a", "b", "c", "d", "e", "f", "g", ""} {
		for _, c := range []string{"a", "b", "c", "d", "e", "f", "g", ""} {
			want := w+c == "ab" || w+c == "bc" || w+c == "cb"
			if got := Sees(l, w, c); got != want {
				t.Errorf("P8.3: Sees of %q, %q: %v", w, c, got)
			}
		}
	}
}

func TestSeesOfRostersThatMayNotBe(t *testing.T) {
	// By the first entry of each two names, with or without a counterpart.
	for _, c := range []struct {
		w, c string
		want bool
	}{
		{"a", "b", false}, {"b", "a", false}, {"z", "a", true}, {"a", "z", false}, {"a", "a", true}, {"c", "a", true}, {"", "a", true},
		{"A!", "a", false}, {"bb", "a", false}, {"d", "", true}, {"", "d", false}, {"e", "a", false},
	} {
		if got := Sees(odd, c.w, c.c); got != c.want {
			t.Errorf("P8.3: Sees of %q, %q: %v", c.w, c.c, got)
		}
	}
}

func TestWatchers(t *testing.T) {
	l := sorted(append(pairs(on("z", "m", to), on("b", "m", both), on("bb", "m", to), on("aaa", "m", to), on("c", "m", out), on("d", "m", from)), on("e", "m", api.Item{To: true, Block: true}), on("m", "e", from), on("f", "m", to), on("m", "f", api.Item{From: true, Block: true}))...)
	if !May(l) {
		t.Fatal("rosters that may not be")
	}
	for c, want := range map[string][]string{"m": {"b", "z", "bb", "aaa"}, "b": {"m"}, "d": {"m"}, "z": nil, "c": nil, "e": nil, "f": nil, "g": nil, "": nil} {
		if got := Watchers(l, c); !slices.Equal(got, want) {
			t.Errorf("P8.3: Watchers of %q: %q, not %q", c, got, want)
		}
	}
	if got := Watchers(crowd("a", 16), contact(3)); !slices.Equal(got, []string{"a"}) {
		t.Errorf("P8.3: Watchers of one of a crowd: %q", got)
	}
	for _, l := range [][]api.Entry{nil, {}} {
		if got := Watchers(l, "a"); len(got) != 0 {
			t.Errorf("P8.3: Watchers in no rosters: %q", got)
		}
	}
}

func TestManyWatchers(t *testing.T) {
	var l []api.Entry
	var want []string
	for n := range 16 {
		l = append(l, on(contact(n), "m", to))
		want = append(want, contact(n))
	}
	if l = pairs(l...); !May(l) {
		t.Fatal("rosters that may not be")
	}
	if got := Watchers(l, "m"); !slices.Equal(got, want) {
		t.Errorf("P8.3: Watchers of one whom 16 see: %q", got)
	}
}

func TestWatchersOfRostersThatMayNotBe(t *testing.T) {
	for c, want := range map[string][]string{"a": {"", "a", "c", "z"}, "b": nil, "": {"d"}, "A!": nil} {
		if got := Watchers(odd, c); !slices.Equal(got, want) {
			t.Errorf("P8.3: Watchers of %q: %q, not %q", c, got, want)
		}
	}
	a, b := on("a", "m", to), on("b", "m", to)
	for i, l := range [][]api.Entry{{b, a}, {a, a, b}, {b, a, b, a}, {a, b, on("a", "m", blocks), on("m", "a", from), on("m", "a", blocks)}} {
		if got := Watchers(l, "m"); !slices.Equal(got, []string{"a", "b"}) {
			t.Errorf("P8.3: case %d: Watchers: %q", i, got)
		}
	}
}

// watchers: P8.3, word by word.
func watchers(l []api.Entry, c string) []string {
	var owners []string
	for _, e := range l {
		if e.Contact == c && Sees(l, e.Owner, c) {
			owners = append(owners, e.Owner)
		}
	}
	return ident.Merge(owners, nil)
}

func TestLooksAtRandomEntries(t *testing.T) {
	r := rand.New(rand.NewSource(2))
	names := []string{"a", "b", "c", "aa", "", "A", "z"}
	for range 20000 {
		l := random(r, 12)
		c := names[r.Intn(len(names))]
		if got, want := Watchers(l, c), watchers(l, c); !slices.Equal(got, want) {
			t.Fatalf("P8.3: Watchers of %q in %v: %q, not %q", c, l, got, want)
		}
		for _, w := range names {
			at := slices.IndexFunc(l, func(e api.Entry) bool { return e.Owner == w && e.Contact == c })
			if got := Get(l, w, c); at < 0 && got != (api.Item{}) || at >= 0 && got != l[at].Item {
				t.Fatalf("P8.1: Get of %q, %q in %v: %v", w, c, l, got)
			}
			if got, want := Sees(l, w, c), subs.Sees(Get(l, w, c), Get(l, c, w)); got != want {
				t.Fatalf("P8.3: Sees of %q, %q in %v: %v", w, c, l, got)
			}
		}
	}
}

func TestDo(t *testing.T) {
	one := pairs(on("b", "d", to))
	for i, c := range []struct {
		l           []api.Entry
		kind        int
		user, other string
		want        []api.Entry
	}{
		{nil, api.Subscribe, "ann", "bob", []api.Entry{on("ann", "bob", out), on("bob", "ann", in)}},
		{nil, api.Subscribe, "bob", "ann", []api.Entry{on("ann", "bob", in), on("bob", "ann", out)}},
		{nil, api.Subscribe, "aa", "b", []api.Entry{on("b", "aa", in), on("aa", "b", out)}},
		{nil, api.Block, "b", "a", []api.Entry{on("a", "b", api.Item{}), on("b", "a", blocks)}},
		// At the front, in the middle, at the end.
		{one, api.Subscribe, "a", "c", sorted(append(one, on("a", "c", out), on("c", "a", in))...)},
		{one, api.Subscribe, "b", "a", sorted(append(one, on("a", "b", in), on("b", "a", out))...)},
		{one, api.Subscribe, "b", "c", sorted(append(one, on("b", "c", out), on("c", "b", in))...)},
		{one, api.Subscribe, "b", "e", sorted(append(one, on("b", "e", out), on("e", "b", in))...)},
		{one, api.Subscribe, "f", "e", sorted(append(one, on("e", "f", in), on("f", "e", out))...)},
		{one, api.Subscribe, "bb", "aa", sorted(append(one, on("aa", "bb", in), on("bb", "aa", out))...)},
		{one, api.Subscribe, "d", "bb", sorted(append(one, on("bb", "d", in), on("d", "bb", out))...)},
		// Those that stand there are changed.
		{one, api.Subscribe, "d", "b", []api.Entry{on("b", "d", api.Item{To: true, In: true}), on("d", "b", api.Item{From: true, Out: true})}},
		{one, api.Block, "b", "d", []api.Entry{on("b", "d", api.Item{To: true, Block: true}), on("d", "b", from)}},
		{pairs(on("a", "b", out), on("b", "c", to)), api.Subscribed, "b", "a", pairs(on("a", "b", to), on("b", "c", to))},
		{sorted(on("a", "b", blocks), on("b", "a", blocks)), api.Unblock, "a", "b", []api.Entry{on("a", "b", api.Item{}), on("b", "a", blocks)}},
		{sorted(on("a", "b", api.Item{To: true, Block: true}), on("b", "a", from)), api.Unsubscribe, "a", "b", []api.Entry{on("a", "b", blocks), on("b", "a", api.Item{})}},
		// Neither is left of those that are empty.
		{one, api.Unsubscribe, "b", "d", nil},
		{one, api.Unsubscribed, "d", "b", nil},
		{sorted(on("a", "b", blocks), on("b", "a", api.Item{})), api.Unblock, "a", "b", nil},
		{pairs(on("a", "b", to), on("b", "c", to), on("a", "c", to)), api.Unsubscribe, "a", "b", pairs(on("b", "c", to), on("a", "c", to))},
		{pairs(on("a", "b", to), on("b", "c", to), on("a", "c", to)), api.Unsubscribe, "b", "c", pairs(on("a", "b", to), on("a", "c", to))},
		{pairs(on("a", "b", to), on("b", "c", out), on("a", "c", to)), api.Unsubscribed, "c", "b", pairs(on("a", "b", to), on("a", "c", to))},
		{pairs(on("a", "b", to), on("b", "c", to), on("a", "c", to)), api.Unsubscribe, "a", "c", pairs(on("a", "b", to), on("b", "c", to))},
	} {
		got, err := Do(c.l, c.kind, c.user, c.other)
		if !slices.Equal(got, c.want) || err != api.OK {
			t.Errorf("P8.2: case %d: %v, %d; not %v", i, got, err, c.want)
		}
	}
}

// refuses: whether Do tells l itself, beside that error.
func refuses(t *testing.T, l []api.Entry, kind int, user, other string, want api.Errno) {
	t.Helper()
	if got, err := Do(l, kind, user, other); !slices.Equal(got, l) || err != want {
		t.Errorf("P8.2: Do of %d, %q, %q on %v: %v, %d; not %d", kind, user, other, l, got, err, want)
	}
}

func TestDoRefusesRostersThatMayNotBe(t *testing.T) {
	for _, l := range mayNots() {
		for kind := range 8 {
			refuses(t, l, kind, "x", "y", api.ErrArg)
			refuses(t, l, kind, "a", "b", api.ErrArg)
		}
	}
}

func TestDoRefusesNoNamesAndTheSame(t *testing.T) {
	for _, l := range [][]api.Entry{nil, pairs(on("a", "b", to)), crowd("a", 16), sorted(on("a", "b", blocks), on("b", "a", blocks))} {
		for kind := range 8 {
			for _, s := range wrongNames {
				refuses(t, l, kind, s, "b", api.ErrArg)
				refuses(t, l, kind, "a", s, api.ErrArg)
				refuses(t, l, kind, s, s, api.ErrArg)
			}
			for _, s := range []string{"a", "b", "x", sixteen} {
				refuses(t, l, kind, s, s, api.ErrArg)
			}
		}
	}
}

func TestDoRefusesWrongKinds(t *testing.T) {
	for _, l := range [][]api.Entry{nil, pairs(on("a", "b", to)), crowd("a", 16), sorted(on("a", "b", blocks), on("b", "a", blocks))} {
		for _, kind := range []int{0, 7, 8, -1, 9, 256 + 1, 1<<32 + 1, 1<<40 + 5, math.MaxInt, math.MinInt} {
			refuses(t, l, kind, "a", "b", api.ErrArg)
			refuses(t, l, kind, "a", "x", api.ErrArg)
		}
	}
}

func TestDoTellsTheErrorsOfAct(t *testing.T) {
	l := pairs(on("a", "b", to))
	refuses(t, l, api.Subscribe, "a", "b", api.ErrState)
	refuses(t, l, api.Subscribed, "b", "a", api.ErrState)
	refuses(t, l, api.Unsubscribe, "b", "a", api.ErrState)
	refuses(t, l, api.Unsubscribed, "a", "b", api.ErrState)
	refuses(t, l, api.Unblock, "a", "b", api.ErrState)
	for kind := api.Subscribed; kind <= api.Unblock; kind++ {
		if kind != api.Block {
			refuses(t, l, kind, "a", "c", api.ErrState)
			refuses(t, nil, kind, "a", "c", api.ErrState)
		}
	}
	blocked := sorted(on("a", "b", blocks), on("b", "a", api.Item{}))
	refuses(t, blocked, api.Subscribe, "a", "b", api.ErrBlock)
	refuses(t, blocked, api.Subscribe, "b", "a", api.ErrBlock)
	refuses(t, blocked, api.Subscribed, "a", "b", api.ErrBlock)
	refuses(t, blocked, api.Subscribed, "b", "a", api.ErrBlock)
	refuses(t, blocked, api.Block, "a", "b", api.ErrState)
	refuses(t, blocked, api.Unblock, "b", "a", api.ErrState)
}

func TestDoWhereRostersAreFull(t *testing.T) {
	for _, most := range []int{15, 16} {
		for _, owner := range []string{"a", "zzzz"} {
			l := crowd(owner, most)
			want := api.OK
			if most == 16 {
				want = api.ErrFull
			}
			for _, kind := range []int{api.Subscribe, api.Block} {
				// On the side of who does, and on the other one's.
				for _, names := range [][2]string{{owner, "x"}, {"x", owner}} {
					got, err := Do(l, kind, names[0], names[1])
					if err != want || want != api.OK && !slices.Equal(got, l) || want == api.OK && len(got) != len(l)+2 {
						t.Errorf("P8.2: %d of %q by one who has %d: %v, %d", kind, names, most, got, err)
					}
				}
				// Neither of the two is full.
				if got, err := Do(l, kind, "x", contact(3)); err != api.OK || len(got) != len(l)+2 {
					t.Errorf("P8.2: %d of others than one who has %d: %v, %d", kind, most, got, err)
				}
				// Entries that are there take no more room.
				if got, err := Do(l, kind, contact(3), owner); err != api.OK || len(got) != len(l) {
					t.Errorf("P8.2: %d of a contact of one who has %d: %v, %d", kind, most, got, err)
				}
			}
			// Told ahead of it: what Act tells.
			refuses(t, l, api.Unsubscribe, owner, "x", api.ErrState)
			refuses(t, l, api.Unblock, "x", owner, api.ErrState)
			if got, err := Do(l, api.Unsubscribe, owner, contact(0)); err != api.OK || len(got) != len(l)-2 {
				t.Errorf("P8.2: an entry less of one who has %d: %v, %d", most, got, err)
			}
		}
	}
	l := pairs(append(crowdOf("a", 16), crowdOf("b", 16)...)...)
	refuses(t, l, api.Subscribe, "a", "b", api.ErrFull)
	refuses(t, l, api.Block, "b", "a", api.ErrFull)
}

// done: P8.2 for rosters that may be, two names and a kind 1 to 6, word by word.
func done(l []api.Entry, kind int, user, other string) ([]api.Entry, api.Errno) {
	a, b, err := subs.Act(Get(l, user, other), Get(l, other, user), kind)
	if err != api.OK {
		return l, err
	}
	var rest []api.Entry
	count := map[string]int{}
	for _, e := range l {
		count[e.Owner]++
		if e.Owner == user && e.Contact == other || e.Owner == other && e.Contact == user {
			continue
		}
		rest = append(rest, e)
	}
	if len(rest) == len(l) && (count[user] == 16 || count[other] == 16) {
		return l, api.ErrFull
	}
	if a == (api.Item{}) && b == (api.Item{}) {
		return rest, api.OK
	}
	return sorted(append(rest, on(user, other, a), on(other, user, b))...), api.OK
}

func TestOfRostersThatMayBeComeRostersThatMayBe(t *testing.T) {
	r := rand.New(rand.NewSource(3))
	var users []string
	for n := range 22 {
		users = append(users, []string{"u", "v", "ww", "x1"}[n%4]+strings.Repeat("y", n/4))
	}
	errs := map[api.Errno]int{}
	for range 4 {
		var l []api.Entry
		for n := range 3000 {
			// At first mostly more of them, so that rosters get full.
			kind := 1 + r.Intn(6)
			if n < 1000 && r.Intn(3) > 0 {
				kind = api.Subscribe
			}
			user, other := users[r.Intn(len(users))], users[r.Intn(len(users))]
			if user == other {
				continue
			}
			got, err := Do(l, kind, user, other)
			want, e := done(l, kind, user, other)
			if !slices.Equal(got, want) || err != e {
				t.Fatalf("P8.2: Do of %d, %s, %s on %v: %v, %d; not %v, %d", kind, user, other, l, got, err, want, e)
			}
			// Seldom word by word, as that takes long.
			if !May(got) || n%100 == 0 && !may(got) {
				t.Fatalf("P8.4: Do of %d, %s, %s: %v", kind, user, other, got)
			}
			errs[err]++
			l = got
		}
	}
	for _, err := range []api.Errno{api.OK, api.ErrFull, api.ErrState, api.ErrBlock} {
		if errs[err] < 20 {
			t.Errorf("P8.2: %d was told %d times", err, errs[err])
		}
	}
}

func TestWhatTwoDoChangesNobodyElses(t *testing.T) {
	r := rand.New(rand.NewSource(4))
	users := []string{"a", "b", "c", "aa", "bb"}
	for range 2000 {
		l := walk(r, users, 20)
		user, other := users[r.Intn(len(users))], users[r.Intn(len(users))]
		got, _ := Do(l, 1+r.Intn(6), user, other)
		for _, w := range users {
			for _, c := range users {
				theirs := w == user && c == other || w == other && c == user
				if !theirs && (Get(got, w, c) != Get(l, w, c) || Sees(got, w, c) != Sees(l, w, c)) {
					t.Fatalf("P8.4: what %s and %s do changes what %s has on %s", user, other, w, c)
				}
			}
		}
	}
}

// TestMuchIsDoneSoon: as in rosters that may not be many watch one.
func TestMuchIsDoneSoon(t *testing.T) {
	start := time.Now()
	var l, whole []api.Entry
	for n := range 60000 {
		owner := string([]byte{'a' + byte(n%26), 'a' + byte(n/26%26), 'a' + byte(n/676%26), 'a' + byte(n/17576)})
		l = append(l, on(owner, "m", to), on("m", owner, from))
		whole = append(whole, on(owner+"x", owner+"y", to))
	}
	if got := Watchers(l, "m"); len(got) != 60000 {
		t.Errorf("P8.3: %d watchers", len(got))
	}
	whole = pairs(whole...)
	if !May(whole) {
		t.Error("P8.1: many pairs may not be")
	}
	if got, err := Do(whole, api.Subscribe, "a", "b"); err != api.OK || len(got) != len(whole)+2 {
		t.Errorf("P8.2: of many pairs: %d entries, %d", len(got), err)
	}
	if took := time.Since(start); took > 20*time.Second {
		t.Errorf("R1: many entries took %v", took)
	}
}

// TestNothingHandedInIsChanged: nor does what is answered share memory with it that is written to.
func TestNothingHandedInIsChanged(t *testing.T) {
	whole := pairs(on("a", "b", to), on("b", "c", both), on("d", "b", out), on("x", "y", to))
	for kind := 1; kind <= 6; kind++ {
		for _, names := range [][2]string{{"a", "b"}, {"b", "d"}, {"d", "b"}, {"a", "d"}, {"y", "z"}, {"x", "y"}} {
			spare := append(make([]api.Entry, 0, 30), whole...)
			kept, behind := slices.Clone(spare), on("zzz", "zzzz", both)
			spare = append(spare, behind, behind)[:len(whole)]
			got, err := Do(spare, kind, names[0], names[1])
			once := slices.Clone(got)
			if err == api.OK {
				for i := range got {
					got[i] = api.Entry{}
				}
			}
			if more := spare[:len(kept)+2]; !slices.Equal(spare, kept) || more[len(kept)] != behind || more[len(kept)+1] != behind {
				t.Errorf("R5: Do of %d, %q changed what it was handed: %v", kind, names, more)
			}
			if again, e := Do(spare, kind, names[0], names[1]); !slices.Equal(again, once) || e != err {
				t.Errorf("R6: Do of %d, %q the second time: %v, %d", kind, names, again, e)
			}
		}
	}
	kept := slices.Clone(odd)
	May(odd)
	Get(odd, "a", "b")
	Of(odd, "a")
	Sees(odd, "a", "b")
	Watchers(odd, "a")
	if !slices.Equal(odd, kept) {
		t.Errorf("R5: rosters handed in were changed: %v", odd)
	}
}
