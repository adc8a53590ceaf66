package script

import (
	"math"
	"math/rand"
	"slices"
	"strings"
	"testing"
	"time"

	"rollcall/api"
	"rollcall/crc"
	"rollcall/varint"
)

const last = 1 << 40

var (
	here = api.Value{Show: api.Online, Since: 5}
	away = api.Value{Show: api.Away, Prio: -3, Since: 300, Status: "lunch"}
	// most of all: what takes most bytes.
	widest = api.Value{Show: api.Gone, Prio: 127, Since: last, Status: strings.Repeat("~", 32)}
)

// names: such as are, the shortest one and the longest one among them.
var names = []string{"a", "z", "ann", "b-2", "x99", "q-", strings.Repeat("q", 16)}

// noNames: texts that are none, whether folded or not.
var noNames = []string{"", "1a", "-a", "a_", "a b", " a", "a ", "a\x00", "a\u00e9", "\u00e9", "\xff", "a\xff", "\u212a", "a{", "`", strings.Repeat("a", 17), strings.Repeat("A", 17)}

// capitals: texts that are no names till they are folded.
var capitals = map[string]string{"A": "a", "Z": "z", "Ann-2": "ann-2", "aNN": "ann", strings.Repeat("Q", 16): strings.Repeat("q", 16)}

// noValues: such as may not be.
var noValues = []api.Value{
	{}, {Show: 5}, {Show: -1}, {Show: 0, Prio: 1}, {Show: 4, Prio: 128}, {Show: 4, Prio: -129}, {Show: 4, Since: -1}, {Show: 4, Since: last + 1},
	{Show: 4, Status: strings.Repeat("a", 33)}, {Show: 4, Status: "\x1f"}, {Show: 4, Status: "\x7f"}, {Show: math.MaxInt}, {Show: math.MinInt}, {Show: 256 + 4},
}

// noKinds: numbers that are no kind's.
var noKinds = []int{0, 9, -1, -8, 10, 255, 256, 256 + 1, 256 + 7, 256 + 8, 1<<32 + 8, math.MaxInt, math.MinInt}

// does: what user does to other.
func does(kind int, user, other string) api.Event {
	return api.Event{Kind: kind, User: user, Other: other}
}

// shows: user has that session, at v.
func shows(user string, id int, v api.Value) api.Event {
	return api.Event{Kind: api.Show, User: user, Id: id, Value: v}
}

// leaves: user has that session no more.
func leaves(user string, id int) api.Event {
	return api.Event{Kind: api.Leave, User: user, Id: id}
}

// rights: events that may be, of each kind.
func rights() []api.Event {
	var l []api.Event
	for kind := api.Subscribe; kind <= api.Unblock; kind++ {
		for _, user := range names {
			for _, other := range names {
				l = append(l, does(kind, user, other))
			}
		}
	}
	for _, user := range names {
		for id := range 4 {
			l = append(l, leaves(user, id))
			for _, v := range []api.Value{here, away, widest, {Show: 3, Prio: -128}, {Show: 1, Status: " "}} {
				l = append(l, shows(user, id, v))
			}
		}
	}
	return l
}

// wrongs: events that may not be, but for one thing each of a kind that may.
func wrongs() []api.Event {
	var l []api.Event
	for _, kind := range noKinds {
		l = append(l, api.Event{Kind: kind, User: "ann"}, does(kind, "ann", "bob"), api.Event{Kind: kind, User: "ann", Value: here}, api.Event{Kind: kind})
	}
	for kind := api.Subscribe; kind <= api.Unblock; kind++ {
		for _, s := range noNames {
			l = append(l, does(kind, s, "bob"), does(kind, "ann", s))
		}
		for s := range capitals {
			l = append(l, does(kind, s, "bob"), does(kind, "ann", s))
		}
		for _, id := range []int{1, 3, -1, 4, math.MaxInt} {
			l = append(l, api.Event{Kind: kind, User: "ann", Other: "bob", Id: id})
		}
		for _, v := range []api.Value{here, {Show: 1}, {Prio: 1}, {Since: 1}, {Status: " "}} {
			l = append(l, api.Event{Kind: kind, User: "ann", Other: "bob", Value: v})
		}
	}
	for _, s := range noNames {
		l = append(l, shows(s, 0, here), leaves(s, 0))
	}
	for s := range capitals {
		l = append(l, shows(s, 0, here), leaves(s, 0))
	}
	for _, id := range []int{-1, 4, 5, 255, 256, 257, 1 << 32, math.MinInt, math.MaxInt} {
		l = append(l, shows("ann", id, here), leaves("ann", id))
	}
	for _, v := range noValues {
		l = append(l, shows("ann", 0, v))
	}
	for _, s := range []string{"bob", "a", "A", " ", "\x00"} {
		l = append(l, api.Event{Kind: api.Show, User: "ann", Other: s, Value: here}, api.Event{Kind: api.Leave, User: "ann", Other: s})
	}
	for _, v := range []api.Value{here, {Show: 1}, {Prio: 1}, {Since: 1}, {Status: " "}} {
		l = append(l, api.Event{Kind: api.Leave, User: "ann", Id: 2, Value: v})
	}
	return l
}

// number: n in sevens of bits, reckoned by itself.
func number(n int) string {
	s := ""
	for n > 127 {
		s += string([]byte{byte(n%128 + 128)})
		n /= 128
	}
	return s + string([]byte{byte(n)})
}

// bare: the bytes of e, reckoned by itself.
func bare(e api.Event) string {
	s := string([]byte{byte(e.Kind), byte(len(e.User))}) + e.User
	switch {
	case e.Kind <= api.Unblock:
		return s + string([]byte{byte(len(e.Other))}) + e.Other
	case e.Kind == api.Leave:
		return s + string([]byte{byte(e.Id)})
	}
	v := e.Value
	return s + string([]byte{byte(e.Id), byte(v.Show), byte(v.Prio + 128)}) + number(v.Since) + string([]byte{byte(len(v.Status))}) + v.Status
}

// encoded: what Encode tells of e, that may be.
func encoded(t *testing.T, e api.Event) string {
	t.Helper()
	s, err := Encode(e)
	if err != api.OK {
		t.Fatalf("P23.2: Encode of %v: %d", e, err)
	}
	return s
}

// batched: what Batch tells of l, that may be.
func batched(t *testing.T, l []api.Event) string {
	t.Helper()
	s, err := Batch(l)
	if err != api.OK {
		t.Fatalf("P23.3: Batch of %v: %d", l, err)
	}
	return s
}

// isNone: that s is of no event, and that error told.
func isNone(t *testing.T, s string, want api.Errno) {
	t.Helper()
	if e, err := Decode(s); e != (api.Event{}) || err != want {
		t.Errorf("P23.2: Decode of %q: %v, %d, not %d", s, e, err, want)
	}
}

// isNoBatch: that s is of no events.
func isNoBatch(t *testing.T, s string) {
	t.Helper()
	if l, err := Unbatch(s); len(l) != 0 || err != api.ErrForm {
		t.Errorf("P23.3: Unbatch of %q: %v, %d", s, l, err)
	}
}

func TestMay(t *testing.T) {
	for _, e := range rights() {
		if !May(e) {
			t.Errorf("P23.1: May of %v: false", e)
		}
	}
	for _, e := range wrongs() {
		if May(e) {
			t.Errorf("P23.1: May of %v: true", e)
		}
	}
	// A user that does something to itself is not ruled out here.
	if !May(does(api.Block, "ann", "ann")) {
		t.Error("P23.1: May of one that blocks itself: false")
	}
}

// TestMayOfAllTogether: of each kind with each of a few of all fields, as the words say it.
func TestMayOfAllTogether(t *testing.T) {
	values := []api.Value{{}, here, away, {Prio: 1}, {Show: 5}}
	count := 0
	for kind := -1; kind <= 9; kind++ {
		for _, user := range []string{"", "a", "Ann", "bob"} {
			for _, other := range []string{"", "a", "Ann", "bob"} {
				for id := -1; id <= 4; id++ {
					for at, v := range values {
						name := func(s string) bool { return s == "a" || s == "bob" }
						isId, isValue := id >= 0 && id <= 3, at == 1 || at == 2
						want := name(user)
						switch {
						case kind >= 1 && kind <= 6:
							want = want && name(other) && id == 0 && at == 0
						case kind == 7:
							want = want && other == "" && isId && isValue
						case kind == 8:
							want = want && other == "" && isId && at == 0
						default:
							want = false
						}
						e := api.Event{Kind: kind, User: user, Other: other, Id: id, Value: v}
						if got := May(e); got != want {
							t.Fatalf("P23.1: May of %v: %v", e, got)
						}
						if want {
							count++
						}
					}
				}
			}
		}
	}
	if count != 6*4+2*4*2+2*4 {
		t.Errorf("P23.1: %d may be", count)
	}
}

func TestFold(t *testing.T) {
	for _, e := range rights() {
		if got, ok := Fold(e); !ok || got != e {
			t.Errorf("P23.1: Fold of %v: %v, %v", e, got, ok)
		}
	}
	for s, small := range capitals {
		for _, x := range [][2]api.Event{
			{does(api.Subscribe, s, "bob"), does(api.Subscribe, small, "bob")}, {does(api.Unblock, "bob", s), does(api.Unblock, "bob", small)}, {does(api.Subscribed, s, s), does(api.Subscribed, small, small)},
			{shows(s, 3, away), shows(small, 3, away)}, {leaves(s, 1), leaves(small, 1)},
		} {
			if got, ok := Fold(x[0]); !ok || got != x[1] {
				t.Errorf("P23.1: Fold of %v: %v, %v", x[0], got, ok)
			}
		}
	}
	// What is said of it stays as it is.
	loud := shows("ANN", 0, api.Value{Show: 1, Status: "At HOME"})
	if got, ok := Fold(loud); !ok || got != shows("ann", 0, loud.Value) {
		t.Errorf("P23.1: Fold of %v: %v, %v", loud, got, ok)
	}
}

// TestFoldIsMay: of whatever is wrong, but for capital letters, nothing is told.
func TestFoldIsMay(t *testing.T) {
	small := func(r rune) rune {
		if r >= 'A' && r <= 'Z' {
			return r + 'a' - 'A'
		}
		return r
	}
	for _, e := range wrongs() {
		want := e
		want.User, want.Other = strings.Map(small, e.User), strings.Map(small, e.Other)
		may := May(want)
		if !may {
			want = api.Event{}
		}
		if got, ok := Fold(e); ok != may || got != want {
			t.Errorf("P23.1: Fold of %v: %v, %v", e, got, ok)
		}
	}
}

func TestFoldThatMayNotBe(t *testing.T) {
	var l []api.Event
	for _, s := range append([]string{"A!", "\u00c4nn", "ANN_", "1A", "-A"}, noNames...) {
		l = append(l, does(api.Subscribe, s, "Bob"), does(api.Subscribe, "Ann", s), shows(s, 0, here), leaves(s, 0))
		if s != "" {
			l = append(l, api.Event{Kind: api.Show, User: "Ann", Other: s, Value: here}, api.Event{Kind: api.Leave, User: "Ann", Other: s})
		}
	}
	l = append(l, api.Event{}, api.Event{Kind: api.Subscribe, User: "Ann"}, api.Event{Kind: api.Show, User: "Ann", Other: "Bob", Value: here}, api.Event{Kind: api.Leave, User: "Ann", Other: "BOB"},
		does(0, "Ann", "Bob"), does(9, "Ann", "Bob"), does(-1, "Ann", "Bob"), does(api.Leave, "Ann", "Bob"), leaves("Ann", 4), leaves("Ann", -1), shows("Ann", 0, api.Value{}), shows("Ann", 4, here),
		api.Event{Kind: api.Block, User: "Ann", Other: "Bob", Id: 1}, api.Event{Kind: api.Block, User: "Ann", Other: "Bob", Value: here})
	for _, e := range l {
		if got, ok := Fold(e); ok || got != (api.Event{}) {
			t.Errorf("P23.1: Fold of %v: %v, %v", e, got, ok)
		}
	}
}

func TestEncode(t *testing.T) {
	if got := encoded(t, leaves("a", 2)); got != crc.Seal("\x08\x01a\x02") || len(got) != 8 {
		t.Errorf("P23.2: Encode: %q", got)
	}
	if got := encoded(t, does(api.Subscribe, "ann", "b")); got != crc.Seal("\x01\x03ann\x01b") {
		t.Errorf("P23.2: Encode: %q", got)
	}
	if got := encoded(t, shows("a", 3, away)); got != crc.Seal("\x07\x01a\x03\x02\x7d\xac\x02\x05lunch") {
		t.Errorf("P23.2: Encode: %q", got)
	}
	for _, e := range rights() {
		if got := encoded(t, e); got != crc.Seal(bare(e)) {
			t.Errorf("P23.2: Encode of %v: %q", e, got)
		}
	}
	for _, e := range wrongs() {
		if got, err := Encode(e); got != "" || err != api.ErrArg {
			t.Errorf("P23.2: Encode of %v: %q, %d", e, got, err)
		}
	}
}

// TestDecode: P23.2, and P23.4.
func TestDecode(t *testing.T) {
	for _, e := range rights() {
		if got, err := Decode(encoded(t, e)); got != e || err != api.OK {
			t.Errorf("P23.4: Decode of %v: %v, %d", e, got, err)
		}
		if got, err := Decode(crc.Seal(bare(e))); got != e || err != api.OK {
			t.Errorf("P23.2: Decode of the bytes of %v: %v, %d", e, got, err)
		}
	}
}

// few: an event of each kind.
func few() []api.Event {
	l := []api.Event{shows("cid", 3, away), shows("a", 0, widest), leaves("a", 2), leaves("long-name-of-one", 0)}
	for kind := api.Subscribe; kind <= api.Unblock; kind++ {
		l = append(l, does(kind, "ann", "bob-2"))
	}
	return l
}

func TestDecodeOfWhatIsCut(t *testing.T) {
	for _, s := range []string{"", "a", "\x00\x00\x00"} {
		isNone(t, s, api.ErrCut)
	}
	// Four noughts are the sealed empty text, of which there is no event.
	isNone(t, "\x00\x00\x00\x00", api.ErrForm)
	for _, e := range few() {
		s := encoded(t, e)
		for n := range len(s) {
			if n < 4 {
				isNone(t, s[:n], api.ErrCut)
				continue
			}
			isNone(t, s[:n], api.ErrSum)
			isNone(t, s[len(s)-n:], api.ErrSum)
		}
		isNone(t, s+"\x00", api.ErrSum)
		isNone(t, s+s, api.ErrSum)
	}
}

// TestDecodeOfASpoiltByte: at each place, each other byte.
func TestDecodeOfASpoiltByte(t *testing.T) {
	for _, e := range few() {
		s := []byte(encoded(t, e))
		for at := range s {
			for mask := 1; mask < 256; mask++ {
				s[at] ^= byte(mask)
				isNone(t, string(s), api.ErrSum)
				s[at] ^= byte(mask)
			}
		}
	}
}

// TestDecodeOfNoEvent: of bytes whose seal is whole.
func TestDecodeOfNoEvent(t *testing.T) {
	l := []string{
		// Less than an event, and other kinds.
		"", "\x01", "\x08", "\x00\x01a\x01b", "\x09\x01a\x01b", "\xff\x01a\x01b", "\x00\x01a", "\x00\x01a\x00", "\x09\x01a\x00", "\x81\x01a\x01b",
		// No User.
		"\x08\x00", "\x08\x00\x02", "\x08\x01", "\x08\x02a", "\x08\x01A\x02", "\x08\x011\x02", "\x08\x11aaaaaaaaaaaaaaaaa\x02", "\x08\x81\x00a\x02", "\x08\x80", "\x08\xff\xff\xff\xff\xff\xff\xff\xff\xff\x01a",
		// No Other.
		"\x01\x01a", "\x01\x01a\x00", "\x01\x01a\x01", "\x01\x01a\x02b", "\x01\x01a\x01B", "\x01\x01a\x01-", "\x01\x01a\x11bbbbbbbbbbbbbbbbb", "\x01\x01a\x81\x00b", "\x01\x01a\x80",
		// No Id, or one that may not be.
		"\x08\x01a", "\x08\x01a\x04", "\x08\x01a\x80", "\x08\x01a\xff", "\x07\x01a", "\x07\x01a\x04\x04\x80\x05\x00", "\x07\x01a\xff\x04\x80\x05\x00",
		// No Value, or one that may not be.
		"\x07\x01a\x00", "\x07\x01a\x00\x04", "\x07\x01a\x00\x04\x80", "\x07\x01a\x00\x04\x80\x05", "\x07\x01a\x00\x04\x80\x05\x01", "\x07\x01a\x00\x00\x80\x05\x00", "\x07\x01a\x00\x05\x80\x05\x00",
		"\x07\x01a\x00\x04\x80\x85\x00\x00", "\x07\x01a\x00\x04\x80\x81\x80\x80\x80\x80\x20\x00", "\x07\x01a\x00\x04\x80\x05\x01\x1f", "\x07\x01a\x00\x04\x80\x05\x01\x7f", "\x07\x01a\x00\x04\x80\x05\x21" + strings.Repeat("a", 33),
		"\x07\x01a\x00\x04\x80\x05\x81\x00a",
		// What another kind has.
		"\x08\x01a\x01b", "\x08\x01a\x02\x04\x80\x05\x00", "\x01\x01a\x02", "\x01\x01a\x01b\x00", "\x06\x01a\x01b\x00\x04\x80\x05\x00", "\x07\x01a\x01b", "\x07\x01a\x00\x01b", "\x07\x01a\x02",
	}
	for _, e := range few() {
		s := bare(e)
		l = append(l, s[:len(s)-1], s+"\x00", s+"\x01", s+"a", s+s, s+crc.Seal(s), "\x00"+s, s[1:])
		for _, kind := range []byte{0, 9, 10, 255} {
			l = append(l, string([]byte{kind})+s[1:])
		}
	}
	for _, s := range l {
		isNone(t, crc.Seal(s), api.ErrForm)
	}
}

// TestDecodeOfAnyBytes: whatever is decoded is what that event is encoded to.
func TestDecodeOfAnyBytes(t *testing.T) {
	r := rand.New(rand.NewSource(1))
	all, count := few(), 0
	for range 200000 {
		s := []byte(bare(all[r.Intn(len(all))]))
		for range 1 + r.Intn(2) {
			at := r.Intn(len(s))
			switch r.Intn(3) {
			case 0:
				s[at] = byte(r.Intn(256))
			case 1:
				s[at] = byte(r.Intn(8))
			case 2:
				s = append(s[:at], s[at+1:]...)
			}
		}
		sealed := crc.Seal(string(s))
		e, err := Decode(sealed)
		if err == api.OK {
			count++
			if got, back := Encode(e); got != sealed || back != api.OK {
				t.Fatalf("P23.2: Decode of %q: %v, which is encoded to %q, %d", sealed, e, got, back)
			}
		} else if err != api.ErrForm || e != (api.Event{}) {
			t.Fatalf("P23.2: Decode of %q: %v, %d", sealed, e, err)
		}
	}
	if count == 0 {
		t.Error("P23.2: nothing was decoded")
	}
}

// many: so many events, no two neighbours the same.
func many(count int) []api.Event {
	all, l := rights(), []api.Event{}
	for n := range count {
		l = append(l, all[n*7%len(all)])
	}
	return l
}

func TestBatch(t *testing.T) {
	for _, l := range [][]api.Event{nil, {}} {
		if got, err := Batch(l); got != "" || err != api.OK {
			t.Errorf("P23.3: Batch of none: %q, %d", got, err)
		}
	}
	for _, count := range []int{1, 2, 3, 50, 99, 100} {
		l, want := many(count), ""
		for _, e := range l {
			want += varint.Text(crc.Seal(bare(e)))
		}
		if got, err := Batch(l); got != want || err != api.OK {
			t.Errorf("P23.3: Batch of %d: %q, %d", count, got, err)
		}
	}
	for _, count := range []int{101, 102, 200, 1000} {
		if got, err := Batch(many(count)); got != "" || err != api.ErrArg {
			t.Errorf("P23.3: Batch of %d: %q, %d", count, got, err)
		}
	}
}

// TestBatchOfOneThatMayNotBe: at each place.
func TestBatchOfOneThatMayNotBe(t *testing.T) {
	for _, wrong := range wrongs() {
		for _, l := range [][]api.Event{{wrong}, {leaves("a", 1), wrong}, {wrong, leaves("a", 1)}, {leaves("a", 1), wrong, leaves("b", 1)}} {
			if got, err := Batch(l); got != "" || err != api.ErrArg {
				t.Errorf("P23.3: Batch of %v: %q, %d", l, got, err)
			}
		}
	}
	for _, at := range []int{0, 50, 99} {
		l := many(100)
		l[at] = api.Event{}
		if got, err := Batch(l); got != "" || err != api.ErrArg {
			t.Errorf("P23.3: Batch of 100 of which number %d may not be: %q, %d", at, got, err)
		}
	}
}

// TestUnbatch: P23.3, and P23.4.
func TestUnbatch(t *testing.T) {
	for _, count := range []int{0, 1, 2, 3, 99, 100} {
		l := many(count)
		if got, err := Unbatch(batched(t, l)); !slices.Equal(got, l) || err != api.OK {
			t.Errorf("P23.3: Unbatch of %d: %v, %d", count, got, err)
		}
	}
	for _, e := range rights() {
		if got, err := Unbatch(varint.Text(crc.Seal(bare(e)))); !slices.Equal(got, []api.Event{e}) || err != api.OK {
			t.Errorf("P23.3: Unbatch of %v: %v, %d", e, got, err)
		}
	}
	// One event twice is two.
	twice := []api.Event{leaves("a", 2), leaves("a", 2)}
	if got, err := Unbatch(batched(t, twice)); !slices.Equal(got, twice) || err != api.OK {
		t.Errorf("P23.3: Unbatch: %v, %d", got, err)
	}
}

func TestUnbatchOfMore(t *testing.T) {
	for _, count := range []int{101, 102, 300} {
		s := ""
		for _, e := range many(count) {
			s += varint.Text(encoded(t, e))
		}
		isNoBatch(t, s)
	}
	// Behind 100 there may be nothing at all.
	full := batched(t, many(100))
	for _, more := range []string{"\x00", "\x01", "\x80", "a", varint.Text("")} {
		isNoBatch(t, full+more)
	}
}

func TestUnbatchOfWhatIsNone(t *testing.T) {
	l := []api.Event{does(api.Subscribe, "ann", "bob"), shows("bob", 1, away), leaves("c", 2)}
	s := batched(t, l)
	ends := map[int]bool{0: true}
	for n := range l {
		ends[len(batched(t, l[:n+1]))] = true
	}
	for n := range len(s) {
		// What is cut between two events is a batch of fewer.
		if got, err := Unbatch(s[:n]); ends[n] != (err == api.OK) || len(got) > 2 || err != api.OK && len(got) > 0 {
			t.Errorf("P23.3: Unbatch of %d bytes: %v, %d", n, got, err)
		}
		if !ends[n] {
			isNoBatch(t, s[:n])
			isNoBatch(t, s[n:])
		}
	}
	one := encoded(t, leaves("a", 2))
	for _, more := range []string{"\x00", "\x01", "\x80", "a", one, "\x00" + s} {
		isNoBatch(t, s+more)
		isNoBatch(t, more+s)
	}
	for _, x := range []string{
		// An event without its length, or with another one, or that in more bytes than it takes.
		one, "\x07" + one, "\x09" + one, "\x88\x00" + one, "\xff\xff\xff\xff\xff\xff\xff\xff\xff\x01" + one, "\xff\xff\xff\xff\xff\xff\xff\xff\xff\x02" + one,
		// Texts that are no events.
		"\x00", "\x01a", "\x03abc", "\x04abcd", "\x04\x00\x00\x00\x00", "\x80", "\x05", varint.Text("\x08\x01a\x02"), varint.Text(crc.Seal("\x09\x01a\x02")), varint.Text(crc.Seal("\x08\x01a\x04")), varint.Text(crc.Seal("\x08\x01A\x02")),
		varint.Text(crc.Seal("\x08\x01a\x02\x00")), varint.Text(one + one), varint.Text(varint.Text(one)), varint.Text(crc.Seal("")),
	} {
		isNoBatch(t, x)
		isNoBatch(t, s+x)
		isNoBatch(t, x+s)
	}
}

// TestUnbatchOfASpoiltByte: P23.4, at each place, each other byte; of a text's length too.
func TestUnbatchOfASpoiltByte(t *testing.T) {
	for _, l := range [][]api.Event{{leaves("a", 2)}, {does(api.Subscribe, "ann", "bob"), shows("bob", 1, away), leaves("c", 2)}, few()} {
		s := []byte(batched(t, l))
		for at := range s {
			for mask := 1; mask < 256; mask++ {
				s[at] ^= byte(mask)
				isNoBatch(t, string(s))
				s[at] ^= byte(mask)
			}
		}
	}
}

// TestArgumentsStay: R5.
func TestArgumentsStay(t *testing.T) {
	whole := many(10)
	kept := slices.Clone(whole)
	l := whole[:5]
	s := batched(t, l)
	got, _ := Unbatch(s)
	again, _ := Unbatch(s)
	for n := range again {
		again[n] = api.Event{}
	}
	again = append(again, leaves("z", 0))
	if !slices.Equal(got, l) || !slices.Equal(whole, kept) || batched(t, l) != s {
		t.Errorf("R5: %v, %v", got, whole)
	}
}

func TestMuchIsDoneSoon(t *testing.T) {
	begin := time.Now()
	long := strings.Repeat("a", 1<<24)
	for _, e := range []api.Event{does(api.Subscribe, long, long), shows(long, 0, api.Value{Show: 4, Status: long}), {Kind: api.Leave, Other: long}} {
		May(e)
		Fold(e)
		Encode(e)
		Batch([]api.Event{e})
	}
	Decode(crc.Seal(long))
	Unbatch(varint.Text(crc.Seal(long)))
	Unbatch(long)
	Batch(make([]api.Event, 1<<20))
	s := batched(t, many(100))
	for range 500 {
		Unbatch(s)
	}
	if took := time.Since(begin); took > 20*time.Second {
		t.Errorf("it took %v", took)
	}
}
