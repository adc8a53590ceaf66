package index

import (
	"fmt"
	"maps"
	"math/rand"
	"slices"
	"strings"
	"testing"
	"time"

	"rollcall/ident"
)

// names: users in their order, of which not all have names; some are the same, if they are laid behind one another.
var names = []string{"", "\x00", " ", "A", "a", "b", "c", "\xff", "\x00\x00", "aa", "ab", "bc", "abc", "ann", "bob", "\u00e9\u00e9", strings.Repeat("z", 16), strings.Repeat("y", 17), strings.Repeat("x", 300)}

// kept: which pairs an Index is to have.
type kept map[[2]string]bool

// with: so many pairs as there are two names each.
func with(names ...string) kept {
	k := kept{}
	for i := 0; i < len(names); i += 2 {
		k[[2]string{names[i], names[i+1]}] = true
	}
	return k
}

// index: an Index that has the pairs of k.
func (k kept) index() *Index {
	x := New()
	for p := range k {
		x.Set(p[0], p[1], true)
	}
	return x
}

// users: who is in a pair of k, and nobody who is not.
func (k kept) users() []string {
	users := []string{"", "a", "nobody"}
	for p := range k {
		users = append(users, p[0], p[1])
	}
	slices.Sort(users)
	return slices.Compact(users)
}

// others: who stands across from each user that stands there, in order.
func (k kept) others(side int) map[string][]string {
	all := map[string][]string{}
	for p := range k {
		all[p[side]] = append(all[p[side]], p[1-side])
	}
	for _, l := range all {
		slices.SortFunc(l, func(a, b string) int {
			if ident.Less(a, b) {
				return -1
			}
			return 1
		})
	}
	return all
}

// check: whether x tells of k, by each call that only looks.
func check(t *testing.T, x *Index, k kept) {
	t.Helper()
	if x.Len() != len(k) {
		t.Errorf("P13.1: Len: %d, not %d", x.Len(), len(k))
	}
	watched, watching := k.others(1), k.others(0)
	users := k.users()
	for _, a := range users {
		watchers, contacts := x.Watchers(a), x.Contacts(a)
		if !slices.Equal(watchers, watched[a]) {
			t.Errorf("P13.2: Watchers of %q: %q, not %q", a, watchers, watched[a])
		}
		if !slices.Equal(contacts, watching[a]) {
			t.Errorf("P13.2: Contacts of %q: %q, not %q", a, contacts, watching[a])
		}
		for _, b := range users {
			if x.Has(a, b) != k[[2]string{a, b}] {
				t.Errorf("P13.1: Has of %q, %q: %v", a, b, x.Has(a, b))
			}
			if slices.Contains(x.Contacts(b), a) != slices.Contains(watchers, b) {
				t.Errorf("P13.3: %q and %q", b, a)
			}
		}
	}
}

// set: Set, whose answer is whether k changes by it.
func set(t *testing.T, x *Index, k kept, w, c string, on bool) {
	t.Helper()
	p := [2]string{w, c}
	if got := x.Set(w, c, on); got != (k[p] != on) {
		t.Errorf("P13.1: Set of %q, %q, %v: %v", w, c, on, got)
	}
	if on {
		k[p] = true
	} else {
		delete(k, p)
	}
}

// forget: Forget, whose answer is how many pairs less k has by it.
func forget(t *testing.T, x *Index, k kept, user string) {
	t.Helper()
	was := len(k)
	maps.DeleteFunc(k, func(p [2]string, _ bool) bool { return p[0] == user || p[1] == user })
	if got := x.Forget(user); got != was-len(k) {
		t.Errorf("P13.2: Forget of %q: %d, not %d", user, got, was-len(k))
	}
}

func TestNew(t *testing.T) {
	x := New()
	if x == nil {
		t.Fatal("P13.1: New tells nil")
	}
	check(t, x, nil)
	for _, w := range names {
		for _, c := range names {
			if x.Has(w, c) || x.Set(w, c, false) {
				t.Errorf("P13.1: %q watches %q from the beginning on", w, c)
			}
		}
		if len(x.Watchers(w)) != 0 || len(x.Contacts(w)) != 0 || x.Forget(w) != 0 {
			t.Errorf("P13.2: %q is there from the beginning on", w)
		}
	}
	// Two of them have nothing of one another.
	x.Set("a", "b", true)
	check(t, New(), nil)
	check(t, x, with("a", "b"))
}

func TestTheExample(t *testing.T) {
	x := New()
	x.Set("a", "b", true)
	x.Set("c", "b", true)
	if got := x.Watchers("b"); !slices.Equal(got, []string{"a", "c"}) {
		t.Errorf("P13.2: Watchers of b: %q", got)
	}
}

func TestSet(t *testing.T) {
	x := New()
	for i, c := range []struct {
		w, c    string
		on      bool
		changed bool
		count   int
		because string
	}{
		{"a", "b", false, false, 0, "one that was never there"},
		{"a", "b", true, true, 1, "a new one"},
		{"a", "b", true, false, 1, "one that is there already"},
		{"b", "a", false, false, 1, "the other way round, that was never there"},
		{"b", "a", true, true, 2, "the other way round, a new one"},
		{"a", "c", true, true, 3, "another contact"},
		{"c", "b", true, true, 4, "another watcher"},
		{"a", "b", false, true, 3, "one that is taken away"},
		{"a", "b", false, false, 3, "one that is taken away already"},
		{"a", "b", true, true, 4, "one that was taken away"},
		{"a", "a", false, false, 4, "one who watches itself, that was never there"},
		{"a", "a", true, true, 5, "one who watches itself"},
		{"a", "a", true, false, 5, "one who watches itself already"},
		{"a", "a", false, true, 4, "one who watches itself, taken away"},
		{"a", "a", false, false, 4, "one who watches itself, taken away already"},
		{"b", "a", false, true, 3, "the other way round, taken away"},
		{"b", "b", false, false, 3, "both there, but never so"},
	} {
		if got := x.Set(c.w, c.c, c.on); got != c.changed {
			t.Errorf("P13.1: case %d (%s): Set: %v", i, c.because, got)
		}
		if x.Has(c.w, c.c) != c.on || x.Len() != c.count {
			t.Errorf("P13.1: case %d (%s): Has: %v, Len: %d", i, c.because, x.Has(c.w, c.c), x.Len())
		}
	}
	check(t, x, with("a", "b", "a", "c", "c", "b"))
}

func TestOneWhoWatchesItself(t *testing.T) {
	x, k := New(), kept{}
	set(t, x, k, "a", "a", true)
	check(t, x, k)
	if w, c := x.Watchers("a"), x.Contacts("a"); !slices.Equal(w, []string{"a"}) || !slices.Equal(c, []string{"a"}) {
		t.Errorf("P13.2: %q, %q", w, c)
	}
	// Beside others, on both sides of it.
	for _, p := range [][2]string{{"", "a"}, {"a", ""}, {"b", "a"}, {"a", "b"}, {"b", "b"}} {
		set(t, x, k, p[0], p[1], true)
		check(t, x, k)
	}
	set(t, x, k, "a", "a", false)
	check(t, x, k)
	set(t, x, k, "a", "a", true)
	check(t, x, k)
}

func TestWatchersAndContacts(t *testing.T) {
	x := New()
	// "many" is watched by all, in no order, and watches some.
	for _, i := range rand.New(rand.NewSource(1)).Perm(len(names)) {
		x.Set(names[i], "many", true)
	}
	for _, c := range []string{"one", "bb", "z", "many", "B"} {
		x.Set("many", c, true)
	}
	for i, c := range []struct {
		got, want []string
	}{
		{x.Watchers("none"), nil},
		{x.Contacts("none"), nil},
		{x.Watchers("one"), []string{"many"}},
		{x.Contacts("one"), nil},
		{x.Watchers("ann"), nil},
		{x.Contacts("ann"), []string{"many"}},
		{x.Contacts(""), []string{"many"}},
		{x.Watchers(""), nil},
		{x.Watchers("many"), ident.Merge(names, []string{"many"})},
		{x.Contacts("many"), []string{"B", "z", "bb", "one", "many"}},
	} {
		if !slices.Equal(c.got, c.want) {
			t.Errorf("P13.2: case %d: %q, not %q", i, c.got, c.want)
		}
	}
}

func TestForget(t *testing.T) {
	for i, c := range []struct {
		k       kept
		user    string
		gone    int
		rest    kept
		because string
	}{
		{nil, "a", 0, nil, "nobody is there"},
		{with("a", "b"), "c", 0, with("a", "b"), "it is not there"},
		{with("a", "b"), "", 0, with("a", "b"), "it is not there, an empty text"},
		{with("a", "b"), "A", 0, with("a", "b"), "it is not there, a capital letter"},
		{with("a", "b"), "a", 1, nil, "it watches"},
		{with("a", "b"), "b", 1, nil, "it is watched"},
		{with("a", "b", "a", "c", "b", "c"), "a", 2, with("b", "c"), "it watches many"},
		{with("a", "c", "b", "c", "b", "a"), "c", 2, with("b", "a"), "it is watched by many"},
		{with("a", "b", "b", "c", "c", "d"), "b", 2, with("c", "d"), "it watches, and is watched"},
		{with("a", "b", "b", "a", "a", "c"), "b", 2, with("a", "c"), "it watches whom it is watched by"},
		{with("a", "a"), "a", 1, nil, "it watches itself alone"},
		{with("a", "a", "b", "b"), "a", 1, with("b", "b"), "it watches itself, as another one does"},
		{with("a", "a", "a", "b", "c", "b"), "a", 2, with("c", "b"), "it watches itself and another one"},
		{with("a", "a", "b", "a", "c", "b"), "a", 2, with("c", "b"), "it is watched by itself and another one"},
		{with("a", "a", "a", "b", "b", "a", "b", "b"), "a", 3, with("b", "b"), "all watch all"},
		{with("", "a", "a", "", "", "", "a", "a"), "", 3, with("a", "a"), "the empty text"},
	} {
		x := c.k.index()
		if got := x.Forget(c.user); got != c.gone {
			t.Errorf("P13.2: case %d (%s): Forget: %d, not %d", i, c.because, got, c.gone)
		}
		check(t, x, c.rest)
		if x.Has(c.user, c.user) || len(x.Watchers(c.user)) != 0 || len(x.Contacts(c.user)) != 0 {
			t.Errorf("P13.2: case %d (%s): it is there still", i, c.because)
		}
		if got := x.Forget(c.user); got != 0 {
			t.Errorf("P13.2: case %d (%s): Forget again: %d", i, c.because, got)
		}
		check(t, x, c.rest)
	}
}

// TestForgottenComesAgain: as if it had never been there.
func TestForgottenComesAgain(t *testing.T) {
	k := with("a", "b", "b", "a", "a", "a", "c", "a", "a", "c")
	x := k.index()
	for range 3 {
		forget(t, x, k, "a")
		check(t, x, k)
		for _, p := range [][2]string{{"a", "c"}, {"a", "a"}, {"b", "a"}} {
			set(t, x, k, p[0], p[1], true)
			check(t, x, k)
		}
	}
}

func TestForgetOfEach(t *testing.T) {
	// All watch all, and are forgotten in several orders.
	r := rand.New(rand.NewSource(2))
	for range 6 {
		x, k := New(), kept{}
		for _, w := range names {
			for _, c := range names {
				set(t, x, k, w, c, true)
			}
		}
		for n, i := range r.Perm(len(names)) {
			left := len(names) - n
			if got := len(k); got != left*left {
				t.Fatalf("%d pairs of %d", got, left)
			}
			forget(t, x, k, names[i])
			check(t, x, k)
		}
	}
}

func TestNil(t *testing.T) {
	var x *Index
	for _, w := range names {
		for _, c := range names {
			for _, on := range []bool{true, false} {
				if x.Set(w, c, on) || x.Has(w, c) {
					t.Errorf("P13.2: a nil Index tells true of %q, %q, %v", w, c, on)
				}
			}
		}
		if len(x.Watchers(w)) != 0 || len(x.Contacts(w)) != 0 || x.Forget(w) != 0 {
			t.Errorf("P13.2: a nil Index tells something of %q", w)
		}
	}
	if x.Len() != 0 {
		t.Errorf("P13.2: a nil Index's Len: %d", x.Len())
	}
}

// TestIndexThatNewDidNotMake: nobody watches anybody in it, and it goes on as one of New does.
func TestIndexThatNewDidNotMake(t *testing.T) {
	var x Index
	k := kept{}
	check(t, &x, k)
	forget(t, &x, k, "a")
	set(t, &x, k, "a", "b", false)
	set(t, &x, k, "a", "b", true)
	set(t, &x, k, "b", "b", true)
	check(t, &x, k)
	forget(t, &x, k, "a")
	check(t, &x, k)
}

// TestCopyDoesNotPanic: whatever becomes of an Index that is copied.
func TestCopyDoesNotPanic(t *testing.T) {
	for _, x := range []*Index{{}, New(), with("a", "b", "b", "c", "a", "a").index()} {
		y := *x
		for _, two := range [][2]*Index{{x, &y}, {&y, x}} {
			two[0].Set("a", "c", true)
			two[1].Set("a", "b", false)
			two[1].Forget("a")
			two[0].Set("a", "c", false)
			two[0].Forget("b")
			two[1].Watchers("c")
		}
	}
}

func TestAnyTexts(t *testing.T) {
	x, k := New(), kept{}
	for i, w := range names {
		for j, c := range names {
			if (i*7+j*3)%4 != 0 {
				set(t, x, k, w, c, true)
			}
		}
	}
	check(t, x, k)
	for i, w := range names {
		for j, c := range names {
			set(t, x, k, w, c, (i+j)%3 == 0)
		}
		check(t, x, k)
	}
	for _, user := range names {
		forget(t, x, k, user)
		check(t, x, k)
	}
}

// TestTextsThatAreTheSameBehindOneAnother: pairs are told apart by each of their two texts.
func TestTextsThatAreTheSameBehindOneAnother(t *testing.T) {
	k := with("a", "bc", "", "abc", "abc", "", "\x00", "", "a\x00", "b", "a\x00b", "")
	x := k.index()
	check(t, x, k)
	for _, p := range [][2]string{{"ab", "c"}, {"", "\x00"}, {"a", "\x00b"}, {"a", "b"}} {
		if x.Has(p[0], p[1]) || x.Set(p[0], p[1], false) {
			t.Errorf("P13.1: %q watches %q", p[0], p[1])
		}
	}
	check(t, x, k)
}

func TestSeveralOrders(t *testing.T) {
	r := rand.New(rand.NewSource(3))
	users := []string{"a", "b", "aa", "", "A", "c"}
	for range 100 {
		k := kept{}
		for range r.Intn(20) {
			k[[2]string{users[r.Intn(6)], users[r.Intn(6)]}] = true
		}
		pairs := slices.SortedFunc(maps.Keys(k), func(a, b [2]string) int { return slices.Compare(a[:], b[:]) })
		for range 6 {
			x := New()
			for _, i := range r.Perm(len(pairs)) {
				p := pairs[i]
				// Some go and come again; and so do such as stay not.
				if r.Intn(3) == 0 {
					x.Set(p[0], p[1], true)
					x.Set(p[0], p[1], false)
				}
				x.Set("passing", p[1], true)
				x.Set(p[0], "passing", true)
				x.Set(p[0], p[1], true)
				if r.Intn(2) == 0 {
					x.Forget("passing")
				}
			}
			x.Forget("passing")
			check(t, x, k)
		}
	}
}

func TestManyCalls(t *testing.T) {
	r := rand.New(rand.NewSource(4))
	users := []string{"a", "b", "c", "aa", "bb", "", "A", "\xff"}
	for range 40 {
		x, k := New(), kept{}
		// At times more of them, at times less.
		for n := range 300 {
			w, c := users[r.Intn(len(users))], users[r.Intn(len(users))]
			switch {
			case r.Intn(40) == 0:
				forget(t, x, k, w)
			default:
				set(t, x, k, w, c, r.Intn(100) > 20+n/5)
			}
			check(t, x, k)
		}
		if t.Failed() {
			return
		}
	}
}

// TestLookingChangesNothing: nor does an answer hang on whether it was asked for ahead.
func TestLookingChangesNothing(t *testing.T) {
	r := rand.New(rand.NewSource(5))
	users := []string{"a", "b", "aa", ""}
	x, y, k := New(), New(), kept{}
	for range 500 {
		w, c, on := users[r.Intn(4)], users[r.Intn(4)], r.Intn(2) == 0
		for range 3 {
			x.Has("nobody", w)
			x.Len()
			// What is answered is its asker's own.
			clear(x.Watchers(c))
			clear(x.Contacts(w))
			_ = append(x.Watchers(w), "z")
		}
		set(t, x, k, w, c, on)
		y.Set(w, c, on)
		check(t, x, k)
		check(t, y, k)
	}
}

func TestAnswersAreNewMemory(t *testing.T) {
	k := with("a", "c", "b", "c", "c", "c", "c", "a", "c", "b")
	x := k.index()
	watchers, contacts := x.Watchers("c"), x.Contacts("c")
	x.Set("a", "c", false)
	x.Set("d", "c", true)
	x.Set("c", "a", false)
	x.Set("c", "d", true)
	x.Forget("b")
	want := []string{"a", "b", "c"}
	if !slices.Equal(watchers, want) || !slices.Equal(contacts, want) {
		t.Errorf("R5: an answer was changed by a later call: %q, %q", watchers, contacts)
	}
}

// TestMuchIsDoneSoon: of one who is watched by many, of one who watches many, and of many pairs.
func TestMuchIsDoneSoon(t *testing.T) {
	start := time.Now()
	const many = 100000
	x := New()
	for n := range many {
		user := fmt.Sprint("u", n)
		if !x.Set(user, "star", true) || !x.Set("fan", user, true) || !x.Set(user, fmt.Sprint("u", n/2), true) {
			t.Fatalf("P13.1: Set of %q", user)
		}
	}
	if x.Len() != 3*many || len(x.Watchers("star")) != many || len(x.Contacts("fan")) != many {
		t.Fatalf("P13.2: %d pairs, %d watchers, %d contacts", x.Len(), len(x.Watchers("star")), len(x.Contacts("fan")))
	}
	for n := range many / 2 {
		if w := x.Watchers(fmt.Sprint("u", n)); len(w) != 3 {
			t.Fatalf("P13.2: Watchers of u%d: %q", n, w)
		}
		if !x.Set(fmt.Sprint("u", n), "star", false) {
			t.Fatalf("P13.1: Set of u%d", n)
		}
	}
	if got := x.Forget("star"); got != many/2 {
		t.Errorf("P13.2: Forget of star: %d", got)
	}
	if got := x.Forget("fan"); got != many {
		t.Errorf("P13.2: Forget of fan: %d", got)
	}
	for n := range many {
		x.Forget(fmt.Sprint("u", n))
	}
	check(t, x, nil)
	if took := time.Since(start); took > 20*time.Second {
		t.Errorf("R1: many calls took %v", took)
	}
}
