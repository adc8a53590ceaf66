package sess

import (
	"math"
	"math/rand"
	"slices"
	"strings"
	"testing"
	"time"

	"rollcall/api"
	"rollcall/ident"
	"rollcall/value"
)

// sixteen: a name of 16 bytes; one more makes it none.
var sixteen = strings.Repeat("z", 16)

// wrongNames: texts that are no names.
var wrongNames = []string{"", "A", "Ann", "1", "-a", "a_b", "a b", "a\xff", "\u00e9", "a\x00", sixteen + "z"}

// wrongIds: numbers that no session has.
var wrongIds = []int{-1, 4, 5, -4, 256, 1 << 32, 1<<32 + 1, math.MaxInt, math.MinInt}

// wrongValues: values that may not be.
var wrongValues = []api.Value{
	{}, {Show: -1}, {Show: 5}, {Show: 1<<32 + 1},
	{Show: 1, Prio: -129}, {Show: 1, Prio: 128},
	{Show: 1, Since: -1}, {Show: 1, Since: 1<<40 + 1},
	{Show: 1, Status: strings.Repeat("s", 33)}, {Show: 1, Status: "\x1f"}, {Show: 1, Status: "\x7f"}, {Show: 1, Status: "\xff"},
}

// rightValues: values that may just be.
var rightValues = []api.Value{
	{Show: 1}, {Show: 4}, {Show: 1, Prio: -128}, {Show: 1, Prio: 127}, {Show: 1, Since: 1 << 40}, {Show: 1, Status: strings.Repeat("~", 32)}, {Show: 1, Status: " "},
}

// some: a session with a Value that tells of n.
func some(user string, id int, n int) api.Session {
	return api.Session{User: user, Id: id, Value: api.Value{Show: 1 + n%4, Prio: n%256 - 128, Since: n * 1000, Status: strings.Repeat("s", n%33)}}
}

// ahead: whether a stands ahead of b, word by word.
func ahead(a, b api.Session) bool {
	return ident.Less(a.User, b.User) || a.User == b.User && a.Id < b.Id
}

// sorted: l, each at its place.
func sorted(l ...api.Session) []api.Session {
	l = slices.Clone(l)
	slices.SortFunc(l, func(a, b api.Session) int {
		if ahead(a, b) {
			return -1
		}
		return 1
	})
	return l
}

// name: the names number 0, 1, 2 .. in their order, other than single letters.
func name(n int) string {
	return string([]byte{'c', byte('a' + n/26), byte('a' + n%26)})
}

// crowd: so many sessions, each user's four ahead of the next one's.
func crowd(count int) []api.Session {
	var l []api.Session
	for n := range count {
		l = append(l, some(name(n/4), n%4, n))
	}
	return l
}

// alone: so many sessions, each of another user.
func alone(count int) []api.Session {
	var l []api.Session
	for n := range count {
		l = append(l, some(name(n), n%4, n))
	}
	return l
}

// mays: sessions that may be.
func mays() [][]api.Session {
	l := [][]api.Session{
		nil, {},
		{some("ann", 0, 1)}, {some("ann", 3, 1)}, {some("a", 2, 0)}, {some(sixteen, 1, 9)},
		{some("a", 0, 1), some("a", 3, 1)}, {some("a", 0, 1), some("a", 1, 1), some("a", 2, 1), some("a", 3, 1)},
		{some("a", 3, 1), some("b", 0, 1)}, {some("z", 3, 1), some("aa", 0, 1)}, {some("a", 1, 7), some("b", 1, 7), some("bb", 1, 7)},
	}
	for count := range 33 {
		l = append(l, crowd(count), alone(count))
	}
	for _, v := range rightValues {
		l = append(l, []api.Session{{User: "a", Value: v}}, []api.Session{some("a", 0, 1), {User: "b", Id: 3, Value: v}})
	}
	return l
}

// wrongs: sessions that may not be, by one thing each.
func wrongs(user string) []api.Session {
	var l []api.Session
	for _, s := range wrongNames {
		l = append(l, some(s, 1, 1))
	}
	for _, id := range wrongIds {
		l = append(l, some(user, id, 1))
	}
	for _, v := range wrongValues {
		l = append(l, api.Session{User: user, Id: 1, Value: v})
	}
	return l
}

// mayNots: sessions that may not be.
func mayNots() [][]api.Session {
	a0, a1, b0 := some("a", 0, 1), some("a", 1, 2), some("b", 0, 3)
	l := [][]api.Session{
		// Not rising by User, or of one User by Id.
		{b0, a0}, {a1, a0}, {some("a", 3, 1), some("a", 2, 1)}, {some("aa", 0, 1), some("b", 0, 1)}, {some("ann", 0, 1), some("al", 1, 1)},
		{a0, b0, a1}, {a1, b0, a0}, {a0, a1, b0, a1}, {some("b", 0, 1), some("aa", 0, 1), some("c", 0, 1)},
		// Twice.
		{a0, a0}, {a0, some("a", 0, 9)}, {a0, a1, a1}, {a0, a0, a1}, {a0, a1, a0}, {a0, b0, a0}, {a0, b0, b0},
		// Too many.
		crowd(33), alone(33), crowd(34), crowd(64), crowd(100),
	}
	for _, s := range wrongs("m") {
		l = append(l, []api.Session{s}, sorted(s, some("a", 1, 1)), sorted(s, some("yy", 1, 1)), sorted(s, some("a", 1, 1), some("yy", 1, 1)))
	}
	return l
}

// right: whether s may be, word by word.
func right(s api.Session) bool {
	return ident.Is(s.User) && slices.Contains([]int{0, 1, 2, 3}, s.Id) && value.May(s.Value)
}

// may: whether l may be, word by word.
func may(l []api.Session) bool {
	for i, s := range l {
		if !right(s) || i > 0 && !ahead(l[i-1], s) {
			return false
		}
	}
	return len(l) <= 32
}

// random: up to most sessions of few users, that may be seldom.
func random(r *rand.Rand, most int) []api.Session {
	names := []string{"a", "b", "c", "aa", "a", "b", "", "A"}
	var l []api.Session
	for range r.Intn(most + 1) {
		s := some(names[r.Intn(len(names))], r.Intn(4), r.Intn(100))
		if r.Intn(20) == 0 {
			s.Id = r.Intn(7) - 1
		}
		if r.Intn(20) == 0 {
			s.Value.Show = r.Intn(6)
		}
		l = append(l, s)
	}
	return l
}

func TestMay(t *testing.T) {
	for i, l := range mays() {
		if !May(l) || !may(l) {
			t.Errorf("P9.1: case %d: %v may not be", i, l)
		}
	}
	for i, l := range mayNots() {
		if May(l) || may(l) {
			t.Errorf("P9.1: case %d: %v may be", i, l)
		}
	}
}

func TestMayOfRandomSessions(t *testing.T) {
	r := rand.New(rand.NewSource(1))
	so := 0
	for n := range 60000 {
		l := random(r, 4)
		if n%2 == 0 {
			l = sorted(l...)
		}
		if May(l) != may(l) {
			t.Fatalf("P9.1: May of %v: %v", l, May(l))
		}
		if May(l) && len(l) > 2 {
			so++
		}
	}
	if so < 500 {
		t.Errorf("P9.1: only %d random lists may be", so)
	}
}

func TestMayAtTheLimitsOfOneSession(t *testing.T) {
	for id := -2; id < 7; id++ {
		if got := May([]api.Session{some("a", id, 1)}); got != (id >= 0 && id <= 3) {
			t.Errorf("P9.1: May of Id %d: %v", id, got)
		}
	}
	for count := 29; count < 36; count++ {
		if got := May(crowd(count)); got != (count <= 32) {
			t.Errorf("P9.1: May of %d sessions: %v", count, got)
		}
	}
}

// odd: sessions that may not be, of which the calls that only look tell none the less.
var odd = []api.Session{
	some("b", 1, 1), some("aa", 9, 2), some("a", 3, 3), some("b", 0, 4), some("", -1, 5), some("a", 3, 6), some("A!", 2, 7), {User: "b"}, some("a", 3, 3), some("", -1, 5), some("\xff", 0, 8), {},
}

func TestOf(t *testing.T) {
	l := []api.Session{some("a", 1, 1), some("b", 0, 2), some("b", 2, 3), some("b", 3, 4), some("z", 0, 5), some("aa", 0, 6), some("aa", 1, 7)}
	for user, want := range map[string][]api.Session{"a": l[:1], "b": l[1:4], "z": l[4:5], "aa": l[5:], "c": nil, "": nil, "A": nil, "ab": nil, "bb": nil, "b\x00": nil, sixteen: nil} {
		if got := Of(l, user); !slices.Equal(got, want) {
			t.Errorf("P9.1: Of %q: %v, not %v", user, got, want)
		}
		for _, none := range [][]api.Session{nil, {}, {some("m", 0, 1)}} {
			if got := Of(none, user); len(got) != 0 {
				t.Errorf("P9.1: Of %q in %v: %v", user, none, got)
			}
		}
	}
}

func TestOfSessionsThatMayNotBe(t *testing.T) {
	for user, want := range map[string][]api.Session{
		"a": {odd[2], odd[5], odd[8]}, "b": {odd[0], odd[3], odd[7]}, "aa": {odd[1]}, "": {odd[4], odd[9], odd[11]}, "A!": {odd[6]}, "\xff": {odd[10]}, "c": nil, "A": nil,
	} {
		if got := Of(odd, user); !slices.Equal(got, want) {
			t.Errorf("P9.1: Of %q: %v, not %v", user, got, want)
		}
	}
	if got := Of(crowd(100), name(24)); !slices.Equal(got, crowd(100)[96:]) {
		t.Errorf("P9.1: Of the last one of 100: %v", got)
	}
}

func TestUsers(t *testing.T) {
	a, b, aa := some("a", 0, 1), some("b", 0, 2), some("aa", 0, 3)
	for i, c := range []struct {
		l    []api.Session
		want []string
	}{
		{nil, nil},
		{[]api.Session{}, nil},
		{[]api.Session{a}, []string{"a"}},
		{[]api.Session{a, some("a", 1, 1), some("a", 3, 1)}, []string{"a"}},
		{[]api.Session{a, b, aa}, []string{"a", "b", "aa"}},
		{crowd(32), []string{name(0), name(1), name(2), name(3), name(4), name(5), name(6), name(7)}},
		// In any order, and such as may not be.
		{[]api.Session{aa, b, a}, []string{"a", "b", "aa"}},
		{[]api.Session{b, a, b, aa, a, b}, []string{"a", "b", "aa"}},
		{[]api.Session{a, a, a}, []string{"a"}},
		{[]api.Session{{}}, []string{""}},
		{odd, []string{"", "a", "b", "\xff", "A!", "aa"}},
	} {
		if got := Users(c.l); !slices.Equal(got, c.want) {
			t.Errorf("P9.1: case %d: Users: %q, not %q", i, got, c.want)
		}
	}
}

func TestUsersOfRandomSessions(t *testing.T) {
	r := rand.New(rand.NewSource(2))
	for range 5000 {
		l := random(r, 12)
		got := Users(l)
		for i, user := range got {
			if i > 0 && !ident.Less(got[i-1], user) || len(Of(l, user)) == 0 {
				t.Fatalf("P9.1: Users of %v: %q", l, got)
			}
		}
		for _, s := range l {
			if !slices.Contains(got, s.User) || !slices.Contains(Of(l, s.User), s) {
				t.Fatalf("P9.1: Users of %v: %q", l, got)
			}
		}
	}
}

func TestPut(t *testing.T) {
	b1, d0, d2, dd := some("b", 1, 1), some("d", 0, 2), some("d", 2, 3), some("dd", 1, 4)
	l := []api.Session{b1, d0, d2, dd}
	for i, c := range []struct {
		l    []api.Session
		s    api.Session
		want []api.Session
	}{
		{nil, b1, []api.Session{b1}},
		{[]api.Session{}, b1, []api.Session{b1}},
		// At the front, in the middle, at the end.
		{l, some("a", 3, 9), []api.Session{some("a", 3, 9), b1, d0, d2, dd}},
		{l, some("b", 0, 9), []api.Session{some("b", 0, 9), b1, d0, d2, dd}},
		{l, some("b", 2, 9), []api.Session{b1, some("b", 2, 9), d0, d2, dd}},
		{l, some("c", 0, 9), []api.Session{b1, some("c", 0, 9), d0, d2, dd}},
		{l, some("d", 1, 9), []api.Session{b1, d0, some("d", 1, 9), d2, dd}},
		{l, some("d", 3, 9), []api.Session{b1, d0, d2, some("d", 3, 9), dd}},
		{l, some("z", 0, 9), []api.Session{b1, d0, d2, some("z", 0, 9), dd}},
		{l, some("aa", 0, 9), []api.Session{b1, d0, d2, some("aa", 0, 9), dd}},
		{l, some("dd", 0, 9), []api.Session{b1, d0, d2, some("dd", 0, 9), dd}},
		{l, some("dd", 2, 9), []api.Session{b1, d0, d2, dd, some("dd", 2, 9)}},
		{l, some(sixteen, 0, 9), []api.Session{b1, d0, d2, dd, some(sixteen, 0, 9)}},
		// Instead of the one that is there.
		{l, some("b", 1, 9), []api.Session{some("b", 1, 9), d0, d2, dd}},
		{l, some("d", 0, 9), []api.Session{b1, some("d", 0, 9), d2, dd}},
		{l, some("d", 2, 9), []api.Session{b1, d0, some("d", 2, 9), dd}},
		{l, some("dd", 1, 9), []api.Session{b1, d0, d2, some("dd", 1, 9)}},
		{l, d2, l},
		{[]api.Session{b1}, some("b", 1, 9), []api.Session{some("b", 1, 9)}},
	} {
		if got, err := Put(c.l, c.s); !slices.Equal(got, c.want) || err != api.OK {
			t.Errorf("P9.2: case %d: %v, %d; not %v", i, got, err, c.want)
		}
	}
	for i, v := range rightValues {
		for id := range 4 {
			s := api.Session{User: "c", Id: id, Value: v}
			if got, err := Put(l, s); !slices.Equal(got, sorted(append(slices.Clone(l), s)...)) || err != api.OK {
				t.Errorf("P9.2: case %d of values: %v, %d", i, got, err)
			}
		}
	}
}

// refusesPut: whether Put tells l itself, beside that error.
func refusesPut(t *testing.T, l []api.Session, s api.Session, want api.Errno) {
	t.Helper()
	if got, err := Put(l, s); !slices.Equal(got, l) || err != want {
		t.Errorf("P9.2: Put of %v into %v: %v, %d; not %d", s, l, got, err, want)
	}
}

func TestPutRefusesWhatMayNotBe(t *testing.T) {
	for _, l := range mayNots() {
		refusesPut(t, l, some("x", 0, 1), api.ErrArg)
		refusesPut(t, l, some("a", 0, 1), api.ErrArg)
		refusesPut(t, l, api.Session{}, api.ErrArg)
		// Told ahead of it that there are more than 32, too.
		if len(l) > 0 {
			refusesPut(t, l, l[0], api.ErrArg)
		}
	}
	for _, l := range [][]api.Session{nil, {}, {some("a", 0, 1)}, {some("m", 1, 9)}, crowd(31), crowd(32), alone(32)} {
		for _, s := range wrongs("m") {
			refusesPut(t, l, s, api.ErrArg)
		}
		for _, s := range wrongs(name(0)) {
			refusesPut(t, l, s, api.ErrArg)
		}
	}
}

func TestPutWhereAllAreThere(t *testing.T) {
	for _, all := range [][]api.Session{crowd(32), alone(32)} {
		for _, s := range []api.Session{some("a", 0, 1), some("zzzz", 0, 1), some(name(3)+"x", 2, 1), some(name(40), 0, 1)} {
			refusesPut(t, all, s, api.ErrFull)
			want := sorted(append(slices.Clone(all[:31]), s)...)
			if got, err := Put(all[:31], s); !slices.Equal(got, want) || err != api.OK {
				t.Errorf("P9.2: Put of %v into 31: %v, %d", s, got, err)
			}
		}
		// A session that is there takes no more room.
		for i, s := range all {
			want := slices.Clone(all)
			want[i] = some(s.User, s.Id, 99)
			if got, err := Put(all, want[i]); !slices.Equal(got, want) || err != api.OK {
				t.Errorf("P9.2: Put of %v into 32: %v, %d", want[i], got, err)
			}
		}
	}
	// One more Id of a user of whom there are some.
	refusesPut(t, alone(32), some(name(0), 3, 1), api.ErrFull)
}

func TestDrop(t *testing.T) {
	l := []api.Session{some("b", 1, 1), some("d", 0, 2), some("d", 2, 3), some("dd", 1, 4)}
	for i, s := range l {
		want := slices.Concat(l[:i], l[i+1:])
		if got, err := Drop(l, s.User, s.Id); !slices.Equal(got, want) || err != api.OK {
			t.Errorf("P9.3: Drop of %v: %v, %d", s, got, err)
		}
		if got, err := Drop([]api.Session{s}, s.User, s.Id); len(got) != 0 || err != api.OK {
			t.Errorf("P9.3: Drop of the only one, %v: %v, %d", s, got, err)
		}
	}
	all := crowd(32)
	for i, s := range all {
		if got, err := Drop(all, s.User, s.Id); !slices.Equal(got, slices.Concat(all[:i], all[i+1:])) || err != api.OK {
			t.Errorf("P9.3: Drop of %v, of 32: %v, %d", s, got, err)
		}
	}
}

// refusesDrop: whether Drop tells l itself, beside that error.
func refusesDrop(t *testing.T, l []api.Session, user string, id int, want api.Errno) {
	t.Helper()
	if got, err := Drop(l, user, id); !slices.Equal(got, l) || err != want {
		t.Errorf("P9.3: Drop of %q, %d of %v: %v, %d; not %d", user, id, l, got, err, want)
	}
}

func TestDropRefuses(t *testing.T) {
	for _, l := range [][]api.Session{nil, {}, {some("b", 1, 1)}, {some("b", 1, 1), some("d", 0, 2), some("d", 2, 3)}, crowd(31), crowd(32)} {
		for _, user := range append([]string{"a", "c", "bb", "B", sixteen}, wrongNames...) {
			for _, id := range append([]int{0, 1, 2, 3}, wrongIds...) {
				refusesDrop(t, l, user, id, api.ErrNone)
			}
		}
		for _, id := range append([]int{0, 2, 3}, wrongIds...) {
			refusesDrop(t, l, "b", id, api.ErrNone)
		}
		for _, id := range append([]int{1, 3}, wrongIds...) {
			refusesDrop(t, l, "d", id, api.ErrNone)
		}
	}
	for _, l := range mayNots() {
		// Whether it is there, or not.
		refusesDrop(t, l, l[0].User, l[0].Id, api.ErrArg)
		refusesDrop(t, l, "x", 0, api.ErrArg)
		refusesDrop(t, l, "", -1, api.ErrArg)
	}
}

// put, and drop: P9.2 and P9.3 for sessions that may be, and one that may, word by word.
func put(l []api.Session, s api.Session) ([]api.Session, api.Errno) {
	rest, _ := drop(l, s.User, s.Id)
	if len(rest) == 32 {
		return l, api.ErrFull
	}
	return sorted(append(rest, s)...), api.OK
}

func drop(l []api.Session, user string, id int) ([]api.Session, api.Errno) {
	var rest []api.Session
	for _, s := range l {
		if s.User != user || s.Id != id {
			rest = append(rest, s)
		}
	}
	if len(rest) == len(l) {
		return rest, api.ErrNone
	}
	return rest, api.OK
}

func TestOfSessionsThatMayBeComeSessionsThatMayBe(t *testing.T) {
	r := rand.New(rand.NewSource(3))
	errs := map[api.Errno]int{}
	for range 6 {
		var l []api.Session
		for n := range 3000 {
			user, id := name(r.Intn(11)), r.Intn(4)
			var got, want []api.Session
			var err, e api.Errno
			// At first mostly more of them, so that there are 32.
			if r.Intn(4) > 0 || n < 300 {
				s := some(user, id, n)
				got, err = Put(l, s)
				want, e = put(l, s)
			} else {
				got, err = Drop(l, user, id)
				want, e = drop(l, user, id)
			}
			if !slices.Equal(got, want) || err != e {
				t.Fatalf("P9.2, P9.3: of %q, %d in %v: %v, %d; not %v, %d", user, id, l, got, err, want, e)
			}
			if !May(got) || !may(got) {
				t.Fatalf("P9.4: of %q, %d: %v", user, id, got)
			}
			errs[err]++
			l = got
		}
	}
	for _, err := range []api.Errno{api.OK, api.ErrFull, api.ErrNone} {
		if errs[err] < 100 {
			t.Errorf("P9.2, P9.3: %d was told %d times", err, errs[err])
		}
	}
}

func TestAllOthersStay(t *testing.T) {
	for _, l := range mays() {
		for _, s := range append(crowd(8), some("a", 0, 50), some("m", 2, 51), some(sixteen, 3, 52)) {
			put, err := Put(l, s)
			dropped, none := Drop(l, s.User, s.Id)
			if err == api.OK && !slices.Contains(put, s) || none == api.OK && slices.Contains(dropped, s) {
				t.Errorf("P9.4: %v in %v, and in %v", s, put, dropped)
			}
			for _, x := range l {
				same := x.User == s.User && x.Id == s.Id
				if !same && (!slices.Contains(put, x) || !slices.Contains(dropped, x)) {
					t.Errorf("P9.4: %v is missing in %v, or in %v", x, put, dropped)
				}
			}
		}
	}
}

func TestPutAgainIsOne(t *testing.T) {
	l, _ := Put(nil, some("ann", 0, 1))
	l, err := Put(l, some("ann", 0, 2))
	if !slices.Equal(l, []api.Session{some("ann", 0, 2)}) || err != api.OK {
		t.Errorf("P9.2: ann's 0 again: %v, %d", l, err)
	}
	if l, err = Drop(l, "ann", 0); len(l) != 0 || err != api.OK {
		t.Errorf("P9.3: of ann's 0, that was put twice: %v, %d", l, err)
	}
}

// TestMuchIsDoneSoon: as sessions that may not be may be many.
func TestMuchIsDoneSoon(t *testing.T) {
	start := time.Now()
	var l []api.Session
	for n := range 500000 {
		l = append(l, some(strings.Repeat("x", n%7)+name(n%676), n%4, n%9))
	}
	refusesDrop(t, l, "a", 0, api.ErrArg)
	if users := Users(l); len(users) != 676*7 {
		t.Errorf("P9.1: %d users", len(users))
	}
	if own := Of(l, name(0)); len(own) != 500000/(676*7)+1 {
		t.Errorf("P9.1: %d sessions of one", len(own))
	}
	if took := time.Since(start); took > 20*time.Second {
		t.Errorf("R1: many sessions took %v", took)
	}
}

// TestNothingHandedInIsChanged: nor does what is answered share memory with it that is written to.
func TestNothingHandedInIsChanged(t *testing.T) {
	behind := some("zzz", 3, 77)
	for _, count := range []int{0, 1, 2, 5, 31, 32} {
		for _, user := range []string{"a", name(0), name(1), name(7), "zzzz"} {
			for id := range 4 {
				kept := crowd(count)
				spare := append(append(make([]api.Session, 0, 40), kept...), behind, behind)[:count]
				got, err := Put(spare, some(user, id, 88))
				again, e := Put(spare, some(user, id, 88))
				if !slices.Equal(again, got) || e != err {
					t.Errorf("R6: Put the second time: %v, %d", again, e)
				}
				less, none := Drop(spare, user, id)
				if err == api.OK {
					clear(got)
				}
				if none == api.OK {
					clear(less)
				}
				clear(Of(spare, user))
				clear(Users(spare))
				if more := spare[:count+2]; !slices.Equal(spare, kept) || more[count] != behind || more[count+1] != behind {
					t.Errorf("R5: %q, %d: what was handed in was changed: %v", user, id, more)
				}
			}
		}
	}
}

func TestAnAnswerStays(t *testing.T) {
	l, _ := Put(nil, some("b", 1, 1))
	first := slices.Clone(l)
	more, _ := Put(l, some("a", 1, 2))
	second := slices.Clone(more)
	for id := range 4 {
		Put(more, some("a", id, 9))
		Put(l, some("c", id, 9))
		Drop(more, "a", id)
	}
	Drop(l, "b", 1)
	if !slices.Equal(l, first) || !slices.Equal(more, second) {
		t.Errorf("R5: an answer was changed by a later call: %v, %v", l, more)
	}
}
