package agg

import (
	"math"
	"math/rand"
	"slices"
	"strings"
	"testing"
	"time"

	"rollcall/api"
	"rollcall/best"
	"rollcall/ident"
)

// names: users in their order, of which not all have names.
var names = []string{"", " ", "A", "a", "b", "c", "\xff", "Al", "al", "ann", "bob", "\u00e9\u00e9", strings.Repeat("z", 16), strings.Repeat("y", 17), strings.Repeat("x", 300)}

// numbers: below 0 and above, small and great.
var numbers = []int{math.MinInt, math.MinInt + 1, -1<<53 - 1, -1 << 53, -5, -1, 0, 1, 2, 3, 4, 1 << 32, 1 << 53, 1<<53 + 1, math.MaxInt - 1, math.MaxInt}

// some: a session of these.
func some(user string, id, show, prio, since int, status string) api.Session {
	return api.Session{User: user, Id: id, Value: api.Value{Show: show, Prio: prio, Since: since, Status: status}}
}

// kept: what an Agg is to have, as a list in no order.
type kept []api.Session

// put: k with s, instead of the one of the same User and Id.
func (k kept) put(s api.Session) kept {
	return append(k.drop(s.User, s.Id), s)
}

// drop: k without that session.
func (k kept) drop(user string, id int) kept {
	var rest kept
	for _, s := range k {
		if s.User != user || s.Id != id {
			rest = append(rest, s)
		}
	}
	return rest
}

// of: the sessions of that user, by Id, rising.
func (k kept) of(user string) []api.Session {
	var own []api.Session
	for _, s := range k {
		if s.User == user {
			own = append(own, s)
		}
	}
	slices.SortFunc(own, func(a, b api.Session) int {
		if a.Id < b.Id {
			return -1
		}
		return 1
	})
	return own
}

// users: all who have a session, in their order.
func (k kept) users() []string {
	var all []string
	for _, s := range k {
		if !slices.Contains(all, s.User) {
			all = append(all, s.User)
		}
	}
	slices.SortFunc(all, func(a, b string) int {
		if ident.Less(a, b) {
			return -1
		}
		return 1
	})
	return all
}

// check: whether g tells what it is to, of what k has, and of some that it has not.
func check(t *testing.T, g *Agg, k kept) {
	t.Helper()
	users := k.users()
	if got := g.Users(); !slices.Equal(got, users) {
		t.Fatalf("P12.2: Users: %q, not %q", got, users)
	}
	for _, user := range append(users, "a", "", "nobody", "A b") {
		own := k.of(user)
		want, has := best.Value(own)
		if got, ok := g.Get(user); got != want || ok != has {
			t.Fatalf("P12.2: Get of %q, of %v: %v, %v; not %v, %v", user, own, got, ok, want, has)
		}
		if got := g.Count(user); got != len(own) {
			t.Fatalf("P12.2: Count of %q: %d, not %d", user, got, len(own))
		}
	}
}

// turned: whether Get of user tells another thing by b than by a.
func turned(a, b kept, user string) bool {
	v, had := best.Value(a.of(user))
	w, has := best.Value(b.of(user))
	return v != w || had != has
}

// put: Put into g, and what it is to have then.
func put(t *testing.T, g *Agg, k kept, s api.Session) kept {
	t.Helper()
	next := k.put(s)
	if got := g.Put(s); got != turned(k, next, s.User) {
		t.Fatalf("P12.1: Put of %v to %v: %v", s, k.of(s.User), got)
	}
	check(t, g, next)
	return next
}

// drop: Drop from g, and what it is to have then.
func drop(t *testing.T, g *Agg, k kept, user string, id int) kept {
	t.Helper()
	next := k.drop(user, id)
	if got := g.Drop(user, id); got != turned(k, next, user) {
		t.Fatalf("P12.1: Drop of %q, %d of %v: %v", user, id, k.of(user), got)
	}
	check(t, g, next)
	return next
}

func TestNew(t *testing.T) {
	g := New()
	if g == nil {
		t.Fatal("P12.1: New tells nil")
	}
	check(t, g, nil)
	for _, user := range names {
		for _, id := range numbers {
			drop(t, g, nil, user, id)
		}
	}
	// Two of them have nothing of one another.
	g.Put(some("ann", 0, 1, 0, 0, ""))
	check(t, New(), nil)
	check(t, g, kept{some("ann", 0, 1, 0, 0, "")})
}

func TestPut(t *testing.T) {
	g := New()
	for i, c := range []struct {
		s       api.Session
		turns   bool
		want    api.Value
		count   int
		because string
	}{
		{some("ann", 1, 2, 5, 3, "a"), true, api.Value{Show: 2, Prio: 5, Since: 3, Status: "a"}, 1, "a new User"},
		{some("ann", 1, 2, 5, 3, "a"), false, api.Value{Show: 2, Prio: 5, Since: 3, Status: "a"}, 1, "the same Value"},
		{some("ann", 1, 2, 5, 3, "b"), true, api.Value{Show: 2, Prio: 5, Since: 3, Status: "b"}, 1, "another Status"},
		{some("ann", 2, 1, 4, 9, "c"), false, api.Value{Show: 2, Prio: 5, Since: 3, Status: "b"}, 2, "less prior, and shows less"},
		{some("ann", 3, 2, 4, 9, "d"), false, api.Value{Show: 2, Prio: 5, Since: 3, Status: "b"}, 3, "less prior, and shows the same"},
		{some("ann", 3, 4, 4, 9, "d"), true, api.Value{Show: 4, Prio: 5, Since: 3, Status: "b"}, 3, "less prior, but shows more"},
		{some("ann", 2, 3, 5, 3, "c"), false, api.Value{Show: 4, Prio: 5, Since: 3, Status: "b"}, 3, "as prior, since as long, but of a greater Id"},
		{some("ann", 0, 3, 5, 3, "b"), false, api.Value{Show: 4, Prio: 5, Since: 3, Status: "b"}, 4, "the best one, with nothing that is told of it other than it was"},
		{some("ann", 0, 3, 5, 3, "z"), true, api.Value{Show: 4, Prio: 5, Since: 3, Status: "z"}, 4, "the best one, with another Status"},
		{some("ann", 2, 3, 5, 4, "c"), true, api.Value{Show: 4, Prio: 5, Since: 4, Status: "c"}, 4, "as prior, since later"},
		{some("ann", 1, 3, 6, 0, "b"), true, api.Value{Show: 4, Prio: 6, Since: 0, Status: "b"}, 4, "more prior"},
		{some("ann", 1, 1, 6, 0, "b"), false, api.Value{Show: 4, Prio: 6, Since: 0, Status: "b"}, 4, "the best one shows less, but another one the most"},
		{some("ann", 3, 2, 4, 9, "d"), true, api.Value{Show: 3, Prio: 6, Since: 0, Status: "b"}, 4, "what shows the most shows less"},
		{some("ann", 1, 1, 0, 0, "b"), true, api.Value{Show: 3, Prio: 5, Since: 4, Status: "c"}, 4, "the best one is less prior than others"},
	} {
		if got := g.Put(c.s); got != c.turns {
			t.Errorf("P12.1: case %d (%s): Put: %v", i, c.because, got)
		}
		if got, ok := g.Get("ann"); got != c.want || !ok {
			t.Errorf("P12.2: case %d (%s): Get: %v, %v; not %v", i, c.because, got, ok, c.want)
		}
		if got := g.Count("ann"); got != c.count {
			t.Errorf("P12.2: case %d (%s): Count: %d, not %d", i, c.because, got, c.count)
		}
	}
}

// TestPutOfAnotherUser: it leaves all others as they are.
func TestPutOfAnotherUser(t *testing.T) {
	g, k := New(), kept(nil)
	for _, s := range []api.Session{some("ann", 0, 1, 1, 1, "a"), some("bob", 0, 4, 9, 9, "b"), some("al", 0, 2, 0, 0, "c"), some("Ann", 0, 2, 7, 7, "d"), some("", 0, 3, 8, 8, "e")} {
		k = put(t, g, k, s)
	}
	if got := g.Users(); !slices.Equal(got, []string{"", "al", "Ann", "ann", "bob"}) {
		t.Errorf("P12.2: Users: %q", got)
	}
	if v, ok := g.Get("ann"); v != (api.Value{Show: 1, Prio: 1, Since: 1, Status: "a"}) || !ok {
		t.Errorf("P12.2: Get of ann: %v, %v", v, ok)
	}
	k = put(t, g, k, some("bob", 0, 1, 1, 1, "z"))
	drop(t, g, k, "Ann", 0)
}

// TestPutOfTheZeroValue: of a new User it turns what Get tells, as that told nothing.
func TestPutOfTheZeroValue(t *testing.T) {
	g := New()
	if !g.Put(api.Session{}) || g.Put(api.Session{}) || g.Put(api.Session{Id: 1}) {
		t.Error("P12.1: Put of zero Values")
	}
	if v, ok := g.Get(""); v != (api.Value{}) || !ok || g.Count("") != 2 || !slices.Equal(g.Users(), []string{""}) {
		t.Errorf("P12.2: %v, %v, %d, %q", v, ok, g.Count(""), g.Users())
	}
	if g.Drop("", 0) || !g.Drop("", 1) || g.Drop("", 1) {
		t.Error("P12.1: Drop of zero Values")
	}
	check(t, g, nil)
}

func TestDrop(t *testing.T) {
	g := New()
	g.Put(some("ann", 0, 1, 9, 5, "a"))
	g.Put(some("ann", 1, 2, 9, 4, "b"))
	g.Put(some("ann", 2, 4, 8, 9, "c"))
	g.Put(some("ann", 3, 4, 7, 9, "d"))
	g.Put(some("bob", 0, 3, 3, 3, "e"))
	for i, c := range []struct {
		user    string
		id      int
		turns   bool
		want    api.Value
		count   int
		because string
	}{
		{"ann", 4, false, api.Value{Show: 4, Prio: 9, Since: 5, Status: "a"}, 4, "an Id that is not there"},
		{"ann", -1, false, api.Value{Show: 4, Prio: 9, Since: 5, Status: "a"}, 4, "an Id below 0"},
		{"al", 0, false, api.Value{Show: 4, Prio: 9, Since: 5, Status: "a"}, 4, "a User that is not there"},
		{"Ann", 0, false, api.Value{Show: 4, Prio: 9, Since: 5, Status: "a"}, 4, "no name"},
		{"bob", 0, true, api.Value{Show: 4, Prio: 9, Since: 5, Status: "a"}, 4, "the last one of another User"},
		{"bob", 0, false, api.Value{Show: 4, Prio: 9, Since: 5, Status: "a"}, 4, "that one again"},
		{"ann", 3, false, api.Value{Show: 4, Prio: 9, Since: 5, Status: "a"}, 3, "one that shows as much as another one"},
		{"ann", 0, true, api.Value{Show: 4, Prio: 9, Since: 4, Status: "b"}, 2, "the best one"},
		{"ann", 0, false, api.Value{Show: 4, Prio: 9, Since: 4, Status: "b"}, 2, "that one again"},
		{"ann", 2, true, api.Value{Show: 2, Prio: 9, Since: 4, Status: "b"}, 1, "the one that shows the most"},
		{"ann", 1, true, api.Value{}, 0, "the last one"},
		{"ann", 1, false, api.Value{}, 0, "that one again"},
	} {
		if got := g.Drop(c.user, c.id); got != c.turns {
			t.Errorf("P12.1: case %d (%s): Drop: %v", i, c.because, got)
		}
		if got, ok := g.Get("ann"); got != c.want || ok != (c.count > 0) {
			t.Errorf("P12.2: case %d (%s): Get: %v, %v; not %v", i, c.because, got, ok, c.want)
		}
		if got := g.Count("ann"); got != c.count {
			t.Errorf("P12.2: case %d (%s): Count: %d, not %d", i, c.because, got, c.count)
		}
	}
	check(t, g, nil)
}

// TestDropOfTheBestOneThatIsTheSame: what Get tells stays, as another one has the same.
func TestDropOfTheBestOneThatIsTheSame(t *testing.T) {
	g, k := New(), kept(nil)
	for id := range 3 {
		k = put(t, g, k, some("ann", id, 2, 5, 3, "a"))
	}
	for id := range 2 {
		if g.Drop("ann", id) {
			t.Errorf("P12.1: Drop of %d: true", id)
		}
	}
	if !g.Drop("ann", 2) {
		t.Error("P12.1: Drop of the last one: false")
	}
	check(t, g, nil)
}

func TestNil(t *testing.T) {
	var g *Agg
	for _, user := range names {
		for _, id := range numbers {
			if g.Put(some(user, id, 4, 1, 1, "a")) || g.Drop(user, id) {
				t.Errorf("P12.2: a nil Agg tells true of %q, %d", user, id)
			}
		}
		if v, ok := g.Get(user); v != (api.Value{}) || ok || g.Count(user) != 0 {
			t.Errorf("P12.2: a nil Agg of %q: %v, %v, %d", user, v, ok, g.Count(user))
		}
	}
	if users := g.Users(); len(users) != 0 {
		t.Errorf("P12.2: a nil Agg's Users: %q", users)
	}
}

// TestAggThatNewDidNotMake: it is without sessions, and goes on as one of New does.
func TestAggThatNewDidNotMake(t *testing.T) {
	var g Agg
	check(t, &g, nil)
	drop(t, &g, nil, "ann", 0)
	k := put(t, &g, nil, some("ann", 0, 1, 2, 3, "a"))
	k = put(t, &g, k, some("ann", 1, 2, 1, 3, "b"))
	drop(t, &g, k, "ann", 0)
}

func TestAnyUserAndAnyNumber(t *testing.T) {
	g, k := New(), kept(nil)
	for i, user := range names {
		for j, id := range numbers {
			n := numbers[(i+j*5)%len(numbers)]
			k = put(t, g, k, some(user, id, n, numbers[(j*3)%len(numbers)]/2*2, -n, user))
		}
	}
	if got := g.Users(); !slices.Equal(got, names) {
		t.Errorf("P12.2: Users: %q", got)
	}
	for i, user := range names {
		for j, id := range numbers {
			if (i+j)%3 == 0 || i%4 == 0 {
				k = drop(t, g, k, user, id)
			}
		}
	}
	for _, user := range names {
		for _, id := range numbers {
			k = drop(t, g, k, user, id)
		}
	}
	check(t, g, nil)
}

// TestNumbersThatAreNearlyTheSame: of two sessions that differ in one of these alone.
func TestNumbersThatAreNearlyTheSame(t *testing.T) {
	for _, m := range numbers {
		for _, n := range numbers {
			for _, two := range [][2]api.Session{
				{some("u", 0, m, 1, 1, "a"), some("u", 1, n, 1, 1, "b")},
				{some("u", 0, 1, m, 1, "a"), some("u", 1, 2, n, 1, "b")},
				{some("u", 1, 2, m, 1, "a"), some("u", 0, 1, n, 1, "b")},
				{some("u", 0, 1, 1, m, "a"), some("u", 1, 2, 1, n, "b")},
				{some("u", 1, 2, 1, m, "a"), some("u", 0, 1, 1, n, "b")},
				{some("u", m, 1, 1, 1, "a"), some("u", n, 2, 1, 1, "b")},
			} {
				g := New()
				k := put(t, g, nil, two[0])
				k = put(t, g, k, two[1])
				k = drop(t, g, k, two[0].User, two[0].Id)
				put(t, g, k, two[0])
			}
		}
	}
}

// session: one of few users and Ids, of few numbers, so that many are the same.
func session(r *rand.Rand) api.Session {
	users := []string{"a", "b", "aa", "", "A"}
	return some(users[r.Intn(len(users))], r.Intn(6)-1, r.Intn(5), r.Intn(3)-1, r.Intn(3)-1, string(rune('x'+r.Intn(2))))
}

func TestManyCalls(t *testing.T) {
	r := rand.New(rand.NewSource(1))
	for range 30 {
		g, k := New(), kept(nil)
		// At times more of them, at times less.
		for n := range 400 {
			s := session(r)
			if r.Intn(100) < 30+n/10 {
				k = drop(t, g, k, s.User, s.Id)
			} else {
				k = put(t, g, k, s)
			}
		}
	}
}

func TestHoweverTheyCameAndWent(t *testing.T) {
	r := rand.New(rand.NewSource(2))
	for range 200 {
		var l kept
		for range r.Intn(12) {
			l = l.put(session(r))
		}
		for range 6 {
			g := New()
			for _, i := range r.Perm(len(l)) {
				// Some come as another one first, and some go and come again; and so do such as stay not.
				if r.Intn(3) == 0 {
					other := session(r)
					other.User, other.Id = l[i].User, l[i].Id
					g.Put(other)
				}
				if r.Intn(3) == 0 {
					g.Put(l[i])
					g.Drop(l[i].User, l[i].Id)
				}
				passing := some("a", 99, 5, 5, 5, "passing")
				g.Put(passing)
				g.Put(l[i])
				g.Drop(passing.User, passing.Id)
			}
			check(t, g, l)
		}
	}
}

// TestLookingChangesNothing: nor does an answer hang on whether it was asked for ahead.
func TestLookingChangesNothing(t *testing.T) {
	r := rand.New(rand.NewSource(3))
	a, b := New(), New()
	var k kept
	for range 500 {
		s := session(r)
		for range 3 {
			a.Get(s.User)
			a.Get("nobody")
			a.Count("nobody")
			clear(a.Users())
		}
		if r.Intn(2) == 0 {
			k = k.put(s)
			if a.Put(s) != b.Put(s) {
				t.Fatalf("R6: Put of %v", s)
			}
		} else {
			k = k.drop(s.User, s.Id)
			if a.Drop(s.User, s.Id) != b.Drop(s.User, s.Id) {
				t.Fatalf("R6: Drop of %v", s)
			}
		}
		check(t, a, k)
		check(t, b, k)
	}
}

func TestUsersAreNewMemory(t *testing.T) {
	g := New()
	for _, user := range names {
		g.Put(some(user, 0, 1, 1, 1, ""))
	}
	told := g.Users()
	g.Drop("a", 0)
	g.Put(some("aaaa", 0, 1, 1, 1, ""))
	if !slices.Equal(told, names) {
		t.Errorf("R5: an answer was changed by a later call: %q", told)
	}
}

// TestMuchIsDoneSoon: of one user with many sessions, and of many users.
func TestMuchIsDoneSoon(t *testing.T) {
	start := time.Now()
	const many = 100000
	g := New()
	for n := range many {
		g.Put(some("ann", n, n%7, n*7919%many, n, ""))
		g.Put(some(strings.Repeat("u", n%9)+string(rune(n)), n, 1, 1, 1, ""))
	}
	for n := range many - 1 {
		g.Drop("ann", n)
		if v, ok := g.Get("ann"); !ok || v.Since <= n {
			t.Fatalf("P12.2: behind Drop of %d: %v, %v", n, v, ok)
		}
	}
	if g.Count("ann") != 1 || len(g.Users()) < many/2 {
		t.Errorf("P12.2: %d sessions, %d users", g.Count("ann"), len(g.Users()))
	}
	if took := time.Since(start); took > 20*time.Second {
		t.Errorf("R1: many calls took %v", took)
	}
}
