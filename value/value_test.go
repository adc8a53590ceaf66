package value

import (
	"math"
	"math/rand"
	"strings"
	"testing"

	"rollcall/api"
	"rollcall/varint"
)

// shown: all bytes that a Status may have, and none else.
const shown = " !\"#$%&'()*+,-./0123456789:;<=>?@ABCDEFGHIJKLMNOPQRSTUVWXYZ[\\]^_`abcdefghijklmnopqrstuvwxyz{|}~"

// status: so many bytes that a Status may have.
func status(length int) string {
	return strings.Repeat(shown, length/len(shown)+1)[:length]
}

// may: values that may be.
func may() []api.Value {
	var l []api.Value
	for show := api.Gone; show <= api.Online; show++ {
		for _, prio := range []int{-128, -127, -1, 0, 1, 5, 126, 127} {
			for _, since := range []int{0, 1, 127, 128, 300, 1 << 14, 1<<40 - 1, 1 << 40} {
				for _, s := range []string{"", "x", " ", "~", "at lunch", status(31), status(32), strings.Repeat(" ", 32)} {
					l = append(l, api.Value{Show: show, Prio: prio, Since: since, Status: s})
				}
			}
		}
	}
	return l
}

// mayNot: values that are each wrong in one thing.
func mayNot() []api.Value {
	ok := api.Value{Show: api.Away, Prio: 7, Since: 9, Status: "here"}
	l := []api.Value{{}}
	for _, show := range []int{math.MinInt, -1, 0, 5, 6, 128, 255, 256 + api.Away, math.MaxInt} {
		v := ok
		v.Show = show
		l = append(l, v)
	}
	for _, prio := range []int{math.MinInt, -256, -130, -129, 128, 129, 255, 256, math.MaxInt} {
		v := ok
		v.Prio = prio
		l = append(l, v)
	}
	for _, since := range []int{math.MinInt, -2, -1, 1<<40 + 1, 1 << 41, math.MaxInt} {
		v := ok
		v.Since = since
		l = append(l, v)
	}
	for _, s := range []string{status(33), status(34), status(300), "\x1f", "\x7f", "\x00", "a\n", "\x80", "\xff", "ok\x1f", "ok\x7fok", "\x1fok", status(31) + "\x7f", "\u00e9", "caf\u00e9"} {
		v := ok
		v.Status = s
		l = append(l, v)
	}
	return l
}

// bytes: what Put is to tell of v, were it one that may be: its Since taken as a number without a sign.
func bytes(v api.Value) string {
	return string([]byte{byte(v.Show), byte(v.Prio + 128)}) + varint.Put(uint64(v.Since)) + varint.Text(v.Status)
}

func refuses(t *testing.T, s string, at int, want api.Errno) {
	t.Helper()
	if v, to, e := Take(s, at); v != (api.Value{}) || to != 0 || e != want {
		t.Errorf("P4.2: Take of %q at %d: %v, %d, %d; not zero, 0, %d", s, at, v, to, e, want)
	}
}

func TestMay(t *testing.T) {
	for _, v := range may() {
		if !May(v) {
			t.Errorf("P4.1: %+v may be", v)
		}
	}
	for _, v := range mayNot() {
		if May(v) {
			t.Errorf("P4.1: %+v may not be", v)
		}
	}
}

func TestMayOfEachNumber(t *testing.T) {
	for n := -700; n <= 700; n++ {
		if want := n >= 1 && n <= 4; May(api.Value{Show: n}) != want {
			t.Errorf("P4.1: a Show of %d: %v", n, !want)
		}
		if want := n >= -128 && n <= 127; May(api.Value{Show: 1, Prio: n}) != want {
			t.Errorf("P4.1: a Prio of %d: %v", n, !want)
		}
		if want := n >= 0; May(api.Value{Show: 1, Since: n}) != want {
			t.Errorf("P4.1: a Since of %d: %v", n, !want)
		}
		if want := n <= 0; May(api.Value{Show: 1, Since: 1<<40 + n}) != want {
			t.Errorf("P4.1: a Since of 2^40 and %d: %v", n, !want)
		}
	}
}

func TestMayOfEachStatus(t *testing.T) {
	for length := range 300 {
		if want := length <= 32; May(api.Value{Show: 1, Status: status(length)}) != want {
			t.Errorf("P4.1: a Status of %d bytes: %v", length, !want)
		}
	}
	for b := range 256 {
		one := string([]byte{byte(b)})
		want := b >= 32 && b <= 126
		for _, s := range []string{one, one + "a", "a" + one, "a" + one + "a", status(31) + one} {
			if May(api.Value{Show: 1, Status: s}) != want {
				t.Errorf("P4.1: a Status of %q: %v", s, !want)
			}
		}
	}
}

func TestPut(t *testing.T) {
	for want, v := range map[string]api.Value{
		"\x04\x80\x05\x00":                     {Show: 4, Since: 5},
		"\x01\x00\x00\x00":                     {Show: 1, Prio: -128},
		"\x02\xff\xac\x02\x02hi":               {Show: 2, Prio: 127, Since: 300, Status: "hi"},
		"\x03\x7f\x7f\x01~":                    {Show: 3, Prio: -1, Since: 127, Status: "~"},
		"\x04\x81\x80\x01\x03 a ":              {Show: 4, Prio: 1, Since: 128, Status: " a "},
		"\x01\x80\x00\x20" + sayings:           {Show: 1, Status: sayings},
		"\x04\x80\x80\x80\x80\x80\x80\x20\x00": {Show: 4, Since: 1 << 40},
	} {
		if s, ok := Put(v); s != want || !ok {
			t.Errorf("P4.2: Put of %+v: %q, %v; not %q", v, s, ok, want)
		}
		if got, to, e := Take(want, 0); got != v || to != len(want) || e != api.OK {
			t.Errorf("P4.2: Take of %q: %+v, %d, %d", want, got, to, e)
		}
	}
	for _, v := range mayNot() {
		if s, ok := Put(v); s != "" || ok {
			t.Errorf("P4.2: Put of %+v: %q, %v; not empty, false", v, s, ok)
		}
	}
}

// sayings: a Status of 32 bytes.
const sayings = "gone to lunch, be back at half 2"

func TestPutIsTaken(t *testing.T) {
	for _, v := range may() {
		put, ok := Put(v)
		if put != bytes(v) || !ok {
			t.Fatalf("P4.2: Put of %+v: %q, %v", v, put, ok)
		}
		for _, around := range [][2]string{{"", ""}, {"", "\x80"}, {"\x80", ""}, {"abc", "\x00\x01"}, {"\x04\x80", put}} {
			s, at := around[0]+put+around[1], len(around[0])
			got, to, e := Take(s, at)
			if got != v || to != at+len(put) || e != api.OK {
				t.Fatalf("P4.4: Take of %q at %d: %+v, %d, %d; not %+v", s, at, got, to, e, v)
			}
		}
	}
}

func TestTakeOfCutValues(t *testing.T) {
	for _, v := range may() {
		put, _ := Put(v)
		for end := range len(put) {
			refuses(t, put[:end], 0, api.ErrCut)
			refuses(t, "xyz"+put[:end], 3, api.ErrCut)
		}
	}
}

func TestTakeOfValuesThatMayNotBe(t *testing.T) {
	for _, v := range mayNot() {
		// Of what a byte can't tell there are no bytes.
		if v.Show < 0 || v.Show > 255 || v.Prio < -128 || v.Prio > 127 {
			continue
		}
		refuses(t, bytes(v), 0, api.ErrForm)
		refuses(t, "\x01\x80"+bytes(v)+"\x00", 2, api.ErrForm)
	}
	for show := range 256 {
		s := string([]byte{byte(show), 0, 0, 0})
		if show < 1 || show > 4 {
			refuses(t, s, 0, api.ErrForm)
		} else if v, to, e := Take(s, 0); v != (api.Value{Show: show, Prio: -128}) || to != 4 || e != api.OK {
			t.Errorf("P4.2: Take of %q: %+v, %d, %d", s, v, to, e)
		}
	}
	for prio := range 256 {
		s := string([]byte{1, byte(prio), 0, 0})
		if v, to, e := Take(s, 0); v != (api.Value{Show: 1, Prio: prio - 128}) || to != 4 || e != api.OK {
			t.Errorf("P4.2: Take of %q: %+v, %d, %d", s, v, to, e)
		}
	}
}

func TestTakeOfWrongPlaces(t *testing.T) {
	for _, s := range []string{"", "\x04", "\x04\x80", "\x04\x80\x05\x00"} {
		for _, at := range []int{math.MinInt, -2, -1, len(s) + 1, len(s) + 2, math.MaxInt - 1, math.MaxInt} {
			refuses(t, s, at, api.ErrArg)
		}
		for at := max(0, len(s)-1); at <= len(s); at++ {
			refuses(t, s, at, api.ErrCut)
		}
	}
}

func TestTakeTellsTheFirstError(t *testing.T) {
	big := varint.Put(1<<40 + 1)
	for s, want := range map[string]api.Errno{
		"":                                      api.ErrCut,
		"\x00":                                  api.ErrCut,
		"\x04\x80":                              api.ErrCut,
		"\x00\x80":                              api.ErrCut,
		"\x04\x80\x80":                          api.ErrCut,
		"\x04\x80\x80\x00\x00":                  api.ErrForm,
		"\x04\x80\x80\x00":                      api.ErrForm,
		"\x04\x80" + strings.Repeat("\xff", 9):  api.ErrCut,
		"\x04\x80" + strings.Repeat("\xff", 10): api.ErrForm,
		"\x04\x80" + varint.Put(math.MaxUint64): api.ErrCut,
		"\x04\x80" + varint.Put(math.MaxUint64) + "\x00": api.ErrForm,
		"\x04\x80" + varint.Put(1<<63) + "\x00":          api.ErrForm,
		"\x04\x80" + varint.Put(1<<63+5) + "\x00":        api.ErrForm,
		"\x04\x80" + varint.Put(1<<63-1) + "\x00":        api.ErrForm,
		"\x04\x80" + varint.Put(1<<32) + "\x00\x00":      api.OK,
		"\x04\x80" + big + "\x00":                        api.ErrForm,
		"\x04\x80" + big:                                 api.ErrCut,
		"\x04\x80" + big + "\x20" + status(31):           api.ErrCut,
		"\x04\x80\x05\x81\x00a":                          api.ErrForm,
		"\x04\x80\x05\x21":                               api.ErrForm,
		"\x04\x80\x05\x21" + status(33):                  api.ErrForm,
		"\x04\x80\x05\x20" + status(31):                  api.ErrCut,
		"\x00\x80\x05\x01":                               api.ErrCut,
		"\x05\x80\x05\x02\x1f":                           api.ErrCut,
		"\x04\x80\x05\x01\x1f":                           api.ErrForm,
		"\x04\x80\x05\x01\x7f":                           api.ErrForm,
		"\x04\x80\x05\x01\xff":                           api.ErrForm,
	} {
		if want != api.OK {
			refuses(t, s, 0, want)
			refuses(t, "\x80"+s, 1, want)
		} else if _, _, e := Take(s, 0); e != api.OK {
			t.Errorf("P4.2: Take of %q: %d", s, e)
		}
	}
}

func TestTakenIsPut(t *testing.T) {
	r := rand.New(rand.NewSource(1))
	some := "\x00\x01\x02\x03\x04\x05\x1f !~\x7f\x80\x81\xff"
	taken := 0
	for range 200000 {
		b := make([]byte, r.Intn(9))
		for i := range b {
			b[i] = some[r.Intn(len(some))]
		}
		s := string(b)
		v, to, e := Take(s, 0)
		if e != api.OK {
			if v != (api.Value{}) || to != 0 {
				t.Fatalf("R3: Take of %q: %+v, %d beside %d", s, v, to, e)
			}
			continue
		}
		taken++
		if put, ok := Put(v); !May(v) || put != s[:to] || !ok {
			t.Fatalf("P4.4: %q is taken as %+v, which is put as %q, %v", s[:to], v, put, ok)
		}
	}
	if taken < 1000 {
		t.Errorf("P4.4: only %d values were taken", taken)
	}
}

func TestValuesBehindOneAnother(t *testing.T) {
	list, s := may()[:60], ""
	for _, v := range list {
		put, _ := Put(v)
		s += put
	}
	at := 0
	for _, want := range list {
		v, to, e := Take(s, at)
		if v != want || e != api.OK {
			t.Fatalf("P4.4: at %d: %+v, %d; not %+v", at, v, e, want)
		}
		at = to
	}
	refuses(t, s, at, api.ErrCut)
}

func TestSayAndHear(t *testing.T) {
	for show, word := range map[int]string{api.Off: "off", api.Gone: "gone", api.Away: "away", api.Busy: "busy", api.Online: "online"} {
		if s, ok := Say(show); s != word || !ok {
			t.Errorf("P4.3: Say of %d: %q, %v", show, s, ok)
		}
		if n, ok := Hear(word); n != show || !ok {
			t.Errorf("P4.3: Hear of %q: %d, %v", word, n, ok)
		}
	}
	for _, show := range []int{math.MinInt, -256, -2, -1, 5, 6, 255, 256, 1 << 32, math.MaxInt} {
		if s, ok := Say(show); s != "" || ok {
			t.Errorf("P4.3: Say of %d: %q, %v; not empty, false", show, s, ok)
		}
	}
	for _, word := range []string{"", "o", "of", "offline", "Off", "OFF", "off ", " off", "off\x00", "Gone", "awa", "buzy", "onlin", "online1", "ONLINE", "4", "shows"} {
		if n, ok := Hear(word); n != 0 || ok {
			t.Errorf("P4.3: Hear of %q: %d, %v; not 0, false", word, n, ok)
		}
	}
}
