package digest

import (
	"hash/fnv"
	"math"
	"math/rand"
	"slices"
	"strings"
	"testing"

	"rollcall/api"
	"rollcall/ident"
	"rollcall/varint"
)

var (
	here = api.Value{Show: api.Online, Since: 5}
	away = api.Value{Show: api.Away, Prio: -3, Since: 300, Status: "lunch"}
)

// row: a row of that Contact, with a Value that tells of n.
func row(contact string, n int) api.Seen {
	return api.Seen{Contact: contact, Value: api.Value{Show: 1 + n%4, Prio: n%256 - 128, Since: n * 1000, Status: strings.Repeat("s", n%33)}}
}

// name: the names number 0, 1, 2 .. in their order: all of one letter, then those of two.
func name(n int) string {
	if n < 26 {
		return string([]byte{byte('a' + n)})
	}
	return string([]byte{byte('a' + (n-26)/26), byte('a' + (n-26)%26)})
}

// table: so many rows, that rise.
func table(rows int) []api.Seen {
	var t []api.Seen
	for n := range rows {
		t = append(t, row(name(n), n))
	}
	return t
}

// of: rows of these Contacts, each with another Value.
func of(contacts ...string) []api.Seen {
	var t []api.Seen
	for n, contact := range contacts {
		t = append(t, row(contact, n))
	}
	return t
}

// longest: as many rows as may be, each of as many bytes as may be.
func longest() []api.Seen {
	var t []api.Seen
	for n := range api.MaxTable {
		contact := strings.Repeat(name(n/26), 15) + name(n%26)
		t = append(t, api.Seen{Contact: contact, Value: api.Value{Show: 4, Prio: 127, Since: 1 << 40, Status: strings.Repeat("~", 32)}})
	}
	return t
}

// mays: tables that may be.
func mays() [][]api.Seen {
	l := [][]api.Seen{{}, of("ann"), of("z", "aa"), of("a", "b", "c"), of("b", "ann", "bob", "k9-2"), longest()}
	for rows := range api.MaxTable + 1 {
		l = append(l, table(rows))
	}
	return l
}

// wrongValues: values that may not be, and what the bytes of each would be.
var wrongValues = map[string]api.Value{
	"\x00\x80\x00\x00":                     {},
	"\x05\x80\x00\x00":                     {Show: 5},
	"\x04\x80\x81\x80\x80\x80\x80\x20\x00": {Show: 4, Since: 1<<40 + 1},
	"\x04\x80\x00\x01\n":                   {Show: 4, Status: "\n"},
	"\x04\x80\x00\x01\x7f":                 {Show: 4, Status: "\x7f"},
}

// wrongNames: texts of up to 16 bytes that are no names.
var wrongNames = []string{"", "A", "Ann", "1", "-a", "a_b", "a b", "a\xff", "\u00e9", "a\x00"}

// mayNots: tables that may not be.
func mayNots() [][]api.Seen {
	l := [][]api.Seen{
		table(33), table(34), table(200),
		append(longest(), row("z"+strings.Repeat("z", 15), 1)),
		of("b", "a"), of("aa", "b"), of("ann", "bob", "al"), of("a", "c", "b"), of("b", "a", "c"), of("c", "b", "a"),
		of("a", "a"), of("a", "b", "b"), of("a", "a", "b"), of("a", "b", "a"), {row("a", 1), row("a", 1)},
		of(strings.Repeat("a", 17)), of("a", strings.Repeat("b", 17)),
	}
	for _, s := range wrongNames {
		l = append(l, of(s), of("a", s), of(s, "zzzz"))
	}
	for _, v := range wrongValues {
		x := api.Seen{Contact: "b", Value: v}
		l = append(l, []api.Seen{x}, []api.Seen{row("a", 1), x}, []api.Seen{x, row("c", 1)}, append(table(31), api.Seen{Contact: "zz", Value: v}))
	}
	return append(l, []api.Seen{{Contact: "b", Value: api.Value{Show: -1}}}, []api.Seen{{Contact: "b", Value: api.Value{Show: 1, Prio: 128}}}, []api.Seen{{Contact: "b", Value: api.Value{Show: 1, Since: -1}}})
}

// bytes: what Put is to tell of t, were it one that may be.
func bytes(t []api.Seen) string {
	s := varint.Put(uint64(len(t)))
	for _, x := range t {
		v := x.Value
		s += varint.Text(x.Contact) + string([]byte{byte(v.Show), byte(v.Prio + 128)}) + varint.Put(uint64(v.Since)) + varint.Text(v.Status)
	}
	return s
}

// fnv64: the sum of s, by the library.
func fnv64(s string) uint64 {
	h := fnv.New64a()
	h.Write([]byte(s))
	return h.Sum64()
}

// random: up to most rows of few Contacts, in any order, names or not.
func random(r *rand.Rand, most int) []api.Seen {
	contacts := []string{"", "a", "b", "c", "A", "aa", "ab", "ann", "1"}
	values := []api.Value{{}, here, away, {Show: 7}, {Show: 4, Since: 6}}
	var t []api.Seen
	for range r.Intn(most + 1) {
		t = append(t, api.Seen{Contact: contacts[r.Intn(len(contacts))], Value: values[r.Intn(len(values))]})
	}
	return t
}

// randomTable: a table that may be, of few Contacts.
func randomTable(r *rand.Rand) []api.Seen {
	var t []api.Seen
	for n := range 40 {
		if len(t) < api.MaxTable && r.Intn(2) == 0 {
			t = append(t, row(name(n), r.Intn(3)))
		}
	}
	return t
}

func refuses(t *testing.T, s string, at int, want api.Errno) {
	t.Helper()
	if got, to, e := Take(s, at); len(got) != 0 || to != 0 || e != want {
		t.Errorf("P5.1: Take of %q at %d: %v, %d, %d; not nothing, 0, %d", s, at, got, to, e, want)
	}
}

func TestMay(t *testing.T) {
	if !May(nil) {
		t.Error("P5.1: no rows may be")
	}
	for _, x := range mays() {
		if !May(x) {
			t.Errorf("P5.1: %v may be", x)
		}
	}
	for _, x := range mayNots() {
		if May(x) {
			t.Errorf("P5.1: %v may not be", x)
		}
	}
}

func TestPutOfKnownTables(t *testing.T) {
	for want, x := range map[string][]api.Seen{
		"\x00":                                 nil,
		"\x01\x01a\x04\x80\x05\x00":            {{Contact: "a", Value: here}},
		"\x01\x03ann\x02\x7d\xac\x02\x05lunch": {{Contact: "ann", Value: away}},
		"\x02\x01b\x04\x80\x05\x00\x02aa\x01\x00\x00\x00": {
			{Contact: "b", Value: here}, {Contact: "aa", Value: api.Value{Show: 1, Prio: -128}},
		},
	} {
		if s, ok := Put(x); s != want || !ok {
			t.Errorf("P5.1: Put of %v: %q, %v; not %q", x, s, ok, want)
		}
		if got, to, e := Take(want, 0); !slices.Equal(got, x) || to != len(want) || e != api.OK {
			t.Errorf("P5.1: Take of %q: %v, %d, %d", want, got, to, e)
		}
	}
}

func TestPut(t *testing.T) {
	for _, x := range mays() {
		if s, ok := Put(x); s != bytes(x) || !ok {
			t.Errorf("P5.1: Put of %v: %q, %v", x, s, ok)
		}
	}
	for _, x := range mayNots() {
		if s, ok := Put(x); s != "" || ok {
			t.Errorf("P5.1: Put of %v: %q, %v; not empty, false", x, s, ok)
		}
	}
}

func TestPutIsTaken(t *testing.T) {
	for _, x := range mays() {
		put, _ := Put(x)
		for _, around := range [][2]string{{"", ""}, {"", "\x80"}, {"\x80", ""}, {"abc", "\x00\x01"}, {"\x01\x01a", put}} {
			s, at := around[0]+put+around[1], len(around[0])
			got, to, e := Take(s, at)
			if !slices.Equal(got, x) || to != at+len(put) || e != api.OK {
				t.Fatalf("P5.5: Take of %q at %d: %v, %d, %d; not %v", s, at, got, to, e, x)
			}
		}
	}
}

func TestTakeOfTablesThatMayNotBe(t *testing.T) {
	for _, x := range mayNots() {
		// Of what a byte can't tell there are no bytes.
		if slices.ContainsFunc(x, func(s api.Seen) bool { return s.Value.Show < 0 || s.Value.Prio > 127 }) {
			continue
		}
		refuses(t, bytes(x), 0, api.ErrForm)
		refuses(t, "\x01a"+bytes(x)+"\x00", 2, api.ErrForm)
	}
	for s := range wrongValues {
		refuses(t, "\x01\x01a"+s, 0, api.ErrForm)
		refuses(t, "\x02\x01a\x04\x80\x05\x00\x01b"+s, 0, api.ErrForm)
	}
	for _, s := range wrongNames {
		refuses(t, "\x01"+varint.Text(s)+"\x04\x80\x05\x00", 0, api.ErrForm)
	}
}

func TestTakeOfWrongPlaces(t *testing.T) {
	for _, s := range []string{"", "\x00", "\x01", "\x01\x01a\x04\x80\x05\x00"} {
		for _, at := range []int{math.MinInt, -2, -1, len(s) + 1, len(s) + 2, math.MaxInt} {
			refuses(t, s, at, api.ErrArg)
		}
		refuses(t, s, len(s), api.ErrCut)
	}
}

func TestTakeOfCutTables(t *testing.T) {
	for _, x := range [][]api.Seen{{}, of("a"), of("b", "ann"), table(32), longest()} {
		put, _ := Put(x)
		for end := range len(put) {
			refuses(t, put[:end], 0, api.ErrCut)
			refuses(t, "xyz"+put[:end], 3, api.ErrCut)
		}
	}
}

func TestTakeOfTooManyRows(t *testing.T) {
	for _, n := range []uint64{33, 34, 127, 128, 1 << 32, 1<<32 + 1, 1 << 63, 1<<63 + 1, math.MaxUint64} {
		// Told ahead of what the rows' bytes lack.
		for _, behind := range []string{"", "\x80", "\x01a", "\x01a\x04\x80\x05\x00", bytes(table(32))[1:]} {
			refuses(t, varint.Put(n)+behind, 0, api.ErrForm)
		}
	}
	for n := range uint64(32) {
		refuses(t, varint.Put(n+1), 0, api.ErrCut)
	}
}

func TestTakeTellsTheFirstError(t *testing.T) {
	a := "\x01a\x04\x80\x05\x00"
	for s, want := range map[string]api.Errno{
		"":                                   api.ErrCut,
		"\x80":                               api.ErrCut,
		"\x80\x00":                           api.ErrForm,
		"\x81\x00" + a:                       api.ErrForm,
		strings.Repeat("\xff", 9) + "\x02":   api.ErrForm,
		"\x01\x11":                           api.ErrForm,
		"\x01\x11" + strings.Repeat("a", 17): api.ErrForm,
		"\x01\x10" + strings.Repeat("a", 15): api.ErrCut,
		"\x01\x81\x00a\x04\x80\x05\x00":      api.ErrForm,
		"\x01\x00":                           api.ErrForm,
		"\x01\x01A":                          api.ErrForm,
		"\x01\x01a":                          api.ErrCut,
		"\x01\x01a\x04\x80\x80\x00\x00":      api.ErrForm,
		"\x01\x01a\x04\x80\x05\x21":          api.ErrForm,
		"\x01\x01a\x04\x80\x05\x02z":         api.ErrCut,
		"\x01\x01a\x00\x80\x05":              api.ErrCut,
		// A row that stands wrong is told behind all other errors.
		"\x03" + a + a:                                api.ErrCut,
		"\x03" + a + a + "\x01b\x04\x80\x05":          api.ErrCut,
		"\x03" + a + a + "\x01b\x04\x80\x05\x00":      api.ErrForm,
		"\x02\x01b\x04\x80\x05\x00" + "\x01a\x04":     api.ErrCut,
		"\x02\x01b\x04\x80\x05\x00" + a:               api.ErrForm,
		"\x02" + a + "\x01a\x04\x80\x05\x00":          api.ErrForm,
		"\x02" + a + "\x01b\x05\x80\x05\x00":          api.ErrForm,
		"\x02\x01a\x05\x80\x05\x00":                   api.ErrForm,
		"\x02" + a + "\x02b":                          api.ErrCut,
		"\x02\x01B\x04\x80\x05\x00" + "\x01a\x04\x80": api.ErrForm,
	} {
		refuses(t, s, 0, want)
		refuses(t, "\x80"+s, 1, want)
	}
}

func TestTakenIsPut(t *testing.T) {
	r := rand.New(rand.NewSource(1))
	some := "\x00\x01\x02\x04aabb\x80\x05\x00\x01"
	taken := 0
	for range 300000 {
		b := make([]byte, r.Intn(14))
		for i := range b {
			b[i] = some[r.Intn(len(some))]
		}
		s := string(b)
		if r.Intn(2) == 0 {
			s = "\x02\x01a\x04\x80\x05\x00" + s
		}
		x, to, e := Take(s, 0)
		if e != api.OK {
			if len(x) != 0 || to != 0 {
				t.Fatalf("R3: Take of %q: %v, %d beside %d", s, x, to, e)
			}
			continue
		}
		if len(x) > 1 {
			taken++
		}
		if put, ok := Put(x); !May(x) || put != s[:to] || !ok {
			t.Fatalf("P5.5: %q is taken as %v, which is put as %q, %v", s[:to], x, put, ok)
		}
	}
	if taken < 20 {
		t.Errorf("P5.5: only %d tables of two rows were taken", taken)
	}
}

func TestSum(t *testing.T) {
	for _, x := range [][]api.Seen{nil, {}} {
		if sum := Sum(x); sum != 12638153115695167455 {
			t.Errorf("P5.2: the sum of the empty table: %d", sum)
		}
	}
	if sum, want := Sum([]api.Seen{{Contact: "a", Value: here}}), fnv64("\x01\x01a\x04\x80\x05\x00"); sum != want {
		t.Errorf("P5.2: the sum of a's row: %d, not %d", sum, want)
	}
	for _, x := range mays() {
		if sum, want := Sum(x), fnv64(bytes(x)); sum != want {
			t.Errorf("P5.2: the sum of %v: %d, not %d", x, sum, want)
		}
	}
	for _, x := range mayNots() {
		if sum := Sum(x); sum != 14695981039346656037 {
			t.Errorf("P5.2: the sum of %v, that may not be: %d", x, sum)
		}
	}
}

func TestSumsTellTablesApart(t *testing.T) {
	seen := map[uint64][]api.Seen{}
	r := rand.New(rand.NewSource(2))
	for range 5000 {
		x := randomTable(r)
		if y, ok := seen[Sum(x)]; ok && !slices.Equal(x, y) {
			t.Fatalf("P5.2: one sum of %v and %v", x, y)
		}
		seen[Sum(x)] = x
	}
}

// on and off: changes.
func on(contact string, v api.Value) api.Change {
	return api.Change{Contact: contact, On: true, Value: v}
}

func off(contact string) api.Change {
	return api.Change{Contact: contact}
}

func TestSetOfTables(t *testing.T) {
	b, d, f := row("b", 1), row("d", 2), row("f", 3)
	is := func(contact string) api.Seen { return api.Seen{Contact: contact, Value: here} }
	for i, c := range []struct {
		t    []api.Seen
		c    api.Change
		want []api.Seen
	}{
		{nil, on("a", here), []api.Seen{is("a")}},
		{nil, off("a"), nil},
		{[]api.Seen{b, d, f}, on("a", here), []api.Seen{is("a"), b, d, f}},
		{[]api.Seen{b, d, f}, on("b", here), []api.Seen{is("b"), d, f}},
		{[]api.Seen{b, d, f}, on("c", here), []api.Seen{b, is("c"), d, f}},
		{[]api.Seen{b, d, f}, on("d", here), []api.Seen{b, is("d"), f}},
		{[]api.Seen{b, d, f}, on("f", here), []api.Seen{b, d, is("f")}},
		{[]api.Seen{b, d, f}, on("g", here), []api.Seen{b, d, f, is("g")}},
		{[]api.Seen{b, d, f}, on("aa", here), []api.Seen{b, d, f, is("aa")}},
		{[]api.Seen{row("bb", 1), row("cc", 2)}, on("z", here), []api.Seen{is("z"), row("bb", 1), row("cc", 2)}},
		{[]api.Seen{b, d, f}, on("d", d.Value), []api.Seen{b, d, f}},
		{[]api.Seen{b, d, f}, off("b"), []api.Seen{d, f}},
		{[]api.Seen{b, d, f}, off("d"), []api.Seen{b, f}},
		{[]api.Seen{b, d, f}, off("f"), []api.Seen{b, d}},
		{[]api.Seen{b, d, f}, off("a"), []api.Seen{b, d, f}},
		{[]api.Seen{b, d, f}, off("c"), []api.Seen{b, d, f}},
		{[]api.Seen{b, d, f}, off("g"), []api.Seen{b, d, f}},
		{[]api.Seen{d}, off("d"), nil},
		// The Value of a change that is not On is not looked at.
		{[]api.Seen{b, d}, api.Change{Contact: "d", Value: here}, []api.Seen{b}},
		{[]api.Seen{b, d}, api.Change{Contact: "c", Value: here}, []api.Seen{b, d}},
		// Nor is it asked whether what is set may be.
		{[]api.Seen{b}, on("A", api.Value{Show: 9}), []api.Seen{{Contact: "A", Value: api.Value{Show: 9}}, b}},
		{[]api.Seen{b}, on("", api.Value{}), []api.Seen{{}, b}},
		{table(32), on("zz", here), append(table(32), is("zz"))},
	} {
		if got := Set(c.t, c.c); !slices.Equal(got, c.want) {
			t.Errorf("P5.3: case %d: Set of %v: %v; not %v", i, c.c, got, c.want)
		}
	}
}

func TestSetOfAnyRows(t *testing.T) {
	a, b, c, d := row("a", 1), row("b", 2), row("c", 3), row("d", 4)
	other := row("b", 9)
	is := api.Seen{Contact: "b", Value: here}
	for i, x := range []struct {
		t    []api.Seen
		c    api.Change
		want []api.Seen
	}{
		{[]api.Seen{b, other}, on("b", here), []api.Seen{is}},
		{[]api.Seen{b, other}, off("b"), nil},
		{[]api.Seen{a, b, other, c}, on("b", here), []api.Seen{a, is, c}},
		{[]api.Seen{a, b, other, c}, off("b"), []api.Seen{a, c}},
		{[]api.Seen{b, a, other, c, b}, on("b", here), []api.Seen{a, is, c}},
		{[]api.Seen{b, a, other, c, b}, off("b"), []api.Seen{a, c}},
		{[]api.Seen{a, a, c, c}, on("b", here), []api.Seen{a, a, is, c, c}},
		{[]api.Seen{a, a, c, c}, off("b"), []api.Seen{a, a, c, c}},
		// Behind all that stand ahead of it, wherever these are.
		{[]api.Seen{d, a}, on("b", here), []api.Seen{d, a, is}},
		{[]api.Seen{c, a, d}, on("b", here), []api.Seen{c, a, is, d}},
		{[]api.Seen{a, d, a, c}, on("b", here), []api.Seen{a, d, a, is, c}},
		{[]api.Seen{b, d, c, a, b}, on("b", here), []api.Seen{d, c, a, is}},
		{[]api.Seen{d, c}, on("b", here), []api.Seen{is, d, c}},
		{append(table(40), row("b", 7)), off("b"), append(table(1), table(40)[2:]...)},
	} {
		if got := Set(x.t, x.c); !slices.Equal(got, x.want) {
			t.Errorf("P5.3: case %d: Set of %v: %v; not %v", i, x.c, got, x.want)
		}
	}
}

func TestSetAtEachPlace(t *testing.T) {
	for n := range 32 {
		whole := table(32)
		rest := slices.Delete(slices.Clone(whole), n, n+1)
		c := on(whole[n].Contact, whole[n].Value)
		if got := Set(rest, c); !slices.Equal(got, whole) {
			t.Errorf("P5.3: %v is set at a wrong place: %v", c, got)
		}
		if got := Set(whole, off(c.Contact)); !slices.Equal(got, rest) {
			t.Errorf("P5.3: %s is not taken away: %v", c.Contact, got)
		}
	}
}

func TestSetOnRandomRows(t *testing.T) {
	r := rand.New(rand.NewSource(3))
	for range 20000 {
		x := random(r, 7)
		c := on(name(r.Intn(3)), here)
		if r.Intn(2) == 0 {
			c = off(c.Contact)
		}
		got := Set(x, c)
		at := slices.IndexFunc(got, func(s api.Seen) bool { return s.Contact == c.Contact })
		if c.On {
			ahead := func(s api.Seen) bool { return ident.Less(s.Contact, c.Contact) }
			if at < 0 || got[at].Value != c.Value || slices.ContainsFunc(got[at+1:], ahead) {
				t.Fatalf("P5.3: Set of %v on %v: %v", c, x, got)
			}
			if at > 0 && !ahead(got[at-1]) {
				t.Fatalf("P5.3: Set of %v on %v: %v: behind one that is not ahead of it", c, x, got)
			}
			got = slices.Delete(slices.Clone(got), at, at+1)
		}
		var rest []api.Seen
		for _, s := range x {
			if s.Contact != c.Contact {
				rest = append(rest, s)
			}
		}
		if !slices.Equal(got, rest) {
			t.Fatalf("P5.3: Set of %v on %v: %v is left of the others", c, x, got)
		}
	}
}

func TestGet(t *testing.T) {
	x := table(32)
	for n, want := range x {
		if v, ok := Get(x, want.Contact); v != want.Value || !ok {
			t.Errorf("P5.3: Get of row %d: %v, %v", n, v, ok)
		}
	}
	for _, contact := range []string{"", "A", "zz", "a ", "aaa", "ann"} {
		for _, x := range [][]api.Seen{nil, {}, x, of("b"), of("a", "a")} {
			if v, ok := Get(x, contact); v != (api.Value{}) || ok {
				t.Errorf("P5.3: Get of %q: %v, %v; not zero, false", contact, v, ok)
			}
		}
	}
	for i, c := range []struct {
		t       []api.Seen
		contact string
		want    api.Value
	}{
		{[]api.Seen{row("b", 1), row("b", 2)}, "b", row("b", 1).Value},
		{[]api.Seen{row("c", 1), row("b", 2), row("a", 3), row("b", 4)}, "b", row("b", 2).Value},
		{[]api.Seen{row("b", 1), {}, row("", 2)}, "", api.Value{}},
		{[]api.Seen{{Contact: "Z", Value: api.Value{Show: -7}}}, "Z", api.Value{Show: -7}},
		{table(50), table(50)[49].Contact, table(50)[49].Value},
	} {
		if v, ok := Get(c.t, c.contact); v != c.want || !ok {
			t.Errorf("P5.3: case %d: %v, %v; not %v", i, v, ok, c.want)
		}
	}
}

func TestChanges(t *testing.T) {
	b, d, f := row("b", 1), row("d", 2), row("f", 3)
	for i, c := range []struct {
		a, b []api.Seen
		want []api.Change
	}{
		{nil, nil, nil},
		{[]api.Seen{}, nil, nil},
		{[]api.Seen{b, d, f}, []api.Seen{b, d, f}, nil},
		{nil, []api.Seen{b, d}, []api.Change{on("b", b.Value), on("d", d.Value)}},
		{[]api.Seen{b, d}, nil, []api.Change{off("b"), off("d")}},
		{[]api.Seen{b, d}, []api.Seen{d, f}, []api.Change{off("b"), on("f", f.Value)}},
		{[]api.Seen{b, d, f}, []api.Seen{b, {Contact: "d", Value: here}, f}, []api.Change{on("d", here)}},
		{[]api.Seen{b, f}, []api.Seen{b, d, f}, []api.Change{on("d", d.Value)}},
		{[]api.Seen{b, d, f}, []api.Seen{b, f}, []api.Change{off("d")}},
		{of("z"), of("aa"), []api.Change{off("z"), on("aa", of("aa")[0].Value)}},
		{of("aa"), of("z"), []api.Change{on("z", of("z")[0].Value), off("aa")}},
		// Rows of any order, told of by ident.Less.
		{[]api.Seen{f, b, d}, []api.Seen{d, f, b}, nil},
		{nil, []api.Seen{f, row("aa", 5), b}, []api.Change{on("b", b.Value), on("f", f.Value), on("aa", row("aa", 5).Value)}},
		// Of each Contact the first row alone.
		{[]api.Seen{b, row("b", 9)}, []api.Seen{b}, nil},
		{[]api.Seen{b}, []api.Seen{b, row("b", 9), row("b", 8)}, nil},
		{[]api.Seen{b, row("b", 9)}, []api.Seen{row("b", 9), b}, []api.Change{on("b", row("b", 9).Value)}},
		{[]api.Seen{d, b, d, b}, nil, []api.Change{off("b"), off("d")}},
		// Neither names nor Values that may be are asked for; a zero Value is another thing than none.
		{[]api.Seen{{Contact: "A", Value: api.Value{Show: 9}}}, []api.Seen{{Contact: "A", Value: api.Value{Show: 8}}}, []api.Change{on("A", api.Value{Show: 8})}},
		{nil, []api.Seen{{}}, []api.Change{on("", api.Value{})}},
		{[]api.Seen{{}}, nil, []api.Change{off("")}},
		{[]api.Seen{{}}, []api.Seen{{}}, nil},
		{[]api.Seen{{Contact: "b"}}, nil, []api.Change{off("b")}},
		{nil, []api.Seen{{Contact: "b"}}, []api.Change{on("b", api.Value{})}},
	} {
		if got := Changes(c.a, c.b); !slices.Equal(got, c.want) {
			t.Errorf("P5.4: case %d: %v; not %v", i, got, c.want)
		}
	}
}

func TestChangesOfEachField(t *testing.T) {
	for i, v := range []api.Value{{Show: 2, Prio: -3, Since: 300, Status: "lunch"}, {Show: 3, Prio: -3, Since: 300, Status: "lunch"}, {Show: 2, Prio: 3, Since: 300, Status: "lunch"}, {Show: 2, Prio: -3, Since: 301, Status: "lunch"}, {Show: 2, Prio: -3, Since: 300, Status: "lunch!"}} {
		got := Changes([]api.Seen{{Contact: "a", Value: away}}, []api.Seen{{Contact: "a", Value: v}})
		if i == 0 && len(got) != 0 || i > 0 && !slices.Equal(got, []api.Change{on("a", v)}) {
			t.Errorf("P5.4: to %v: %v", v, got)
		}
	}
}

// changesByGet: P5.4, word by word.
func changesByGet(a, b []api.Seen) []api.Change {
	var l []api.Change
	for _, contact := range ident.Merge(contacts(a), contacts(b)) {
		before, was := Get(a, contact)
		after, is := Get(b, contact)
		if is && (!was || before != after) {
			l = append(l, on(contact, after))
		}
		if was && !is {
			l = append(l, off(contact))
		}
	}
	return l
}

func TestChangesOfRandomRows(t *testing.T) {
	r := rand.New(rand.NewSource(4))
	for range 20000 {
		a, b := random(r, 7), random(r, 7)
		if got, want := Changes(a, b), changesByGet(a, b); !slices.Equal(got, want) {
			t.Fatalf("P5.4: from %v to %v: %v; not %v", a, b, got, want)
		}
	}
}

func TestChangesMakeTheOtherTable(t *testing.T) {
	r := rand.New(rand.NewSource(5))
	for range 3000 {
		a, b := randomTable(r), randomTable(r)
		if !May(a) || !May(b) {
			t.Fatal("tables that may not be")
		}
		x := a
		for _, c := range Changes(a, b) {
			x = Set(x, c)
		}
		if !slices.Equal(x, b) || Sum(x) != Sum(b) {
			t.Fatalf("P5.5: the changes from %v to %v make %v", a, b, x)
		}
	}
}

func TestChangesOfManyRows(t *testing.T) {
	var x []api.Seen
	for n := range 60000 {
		x = append(x, row(string([]byte{byte(n), byte(n >> 8)}), n))
	}
	if l := Changes(x, nil); len(l) != len(x) {
		t.Errorf("P5.4: %d rows that went: %d changes", len(x), len(l))
	}
	if l := Changes(x, x); len(l) != 0 {
		t.Errorf("P5.4: rows that stayed: %d changes", len(l))
	}
}

// TestNothingHandedInIsChanged: nor does what is answered share memory with it that is written to.
func TestNothingHandedInIsChanged(t *testing.T) {
	for _, contact := range []string{"b", "c", "d", "zz"} {
		for _, c := range []api.Change{on(contact, here), off(contact)} {
			spare := append(make([]api.Seen, 0, 20), of("b", "d", "f", "d")...)
			behind := row("zzz", 3)
			spare = append(spare, behind)[:4]
			kept := slices.Clone(spare)
			got := Set(spare, c)
			once := slices.Clone(got)
			for i := range got {
				got[i] = api.Seen{}
			}
			if !slices.Equal(spare, kept) || spare[:5][4] != behind {
				t.Errorf("R5: Set of %v changed what it was handed: %v", c, spare[:5])
			}
			if again := Set(spare, c); !slices.Equal(again, once) {
				t.Errorf("R6: Set of %v the second time: %v", c, again)
			}
		}
	}
	a, b := of("d", "b", "b"), of("f", "a")
	May(a)
	Put(a)
	Sum(a)
	Get(a, "b")
	Changes(a, b)
	if !slices.Equal(a, of("d", "b", "b")) || !slices.Equal(b, of("f", "a")) {
		t.Errorf("R5: tables handed in were changed: %v, %v", a, b)
	}
}
