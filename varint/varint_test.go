package varint

import (
	"encoding/binary"
	"math"
	"strings"
	"testing"

	"rollcall/api"
)

// numbers: small ones all, and those about each power of two.
func numbers() []uint64 {
	var l []uint64
	for n := range uint64(70000) {
		l = append(l, n)
	}
	for i := range 64 {
		p := uint64(1) << i
		l = append(l, p-1, p, p+1)
	}
	return append(l, math.MaxUint64-1, math.MaxUint64)
}

func refuses(t *testing.T, s string, at int, want api.Errno) {
	t.Helper()
	if n, to, e := Get(s, at); n != 0 || to != 0 || e != want {
		t.Errorf("P1.2: %q at %d: %d, %d, %d; not 0, 0, %d", s, at, n, to, e, want)
	}
}

func refusesText(t *testing.T, s string, at, most int, want api.Errno) {
	t.Helper()
	if text, to, e := Take(s, at, most); text != "" || to != 0 || e != want {
		t.Errorf("P1.3: %q at %d, at most %d: %q, %d, %d; not empty, 0, %d", s, at, most, text, to, e, want)
	}
}

func TestPutOfKnownNumbers(t *testing.T) {
	for _, c := range []struct {
		n    uint64
		want string
	}{
		{0, "\x00"},
		{1, "\x01"},
		{127, "\x7f"},
		{128, "\x80\x01"},
		{129, "\x81\x01"},
		{300, "\xac\x02"},
		{1<<14 - 1, "\xff\x7f"},
		{1 << 14, "\x80\x80\x01"},
		{1<<56 - 1, strings.Repeat("\xff", 7) + "\x7f"},
		{1 << 56, strings.Repeat("\x80", 8) + "\x01"},
		{1<<63 - 1, strings.Repeat("\xff", 8) + "\x7f"},
		{1 << 63, strings.Repeat("\x80", 9) + "\x01"},
		{1<<64 - 1, strings.Repeat("\xff", 9) + "\x01"},
	} {
		if s := Put(c.n); s != c.want {
			t.Errorf("P1.1: Put(%d): %q, not %q", c.n, s, c.want)
		}
		if size := Size(c.n); size != len(c.want) {
			t.Errorf("P1.1: Size(%d): %d, not %d", c.n, size, len(c.want))
		}
	}
}

func TestPutAgainstLibrary(t *testing.T) {
	for _, n := range numbers() {
		if s, want := Put(n), string(binary.AppendUvarint(nil, n)); s != want {
			t.Fatalf("P1.1: Put(%d): %q, not %q", n, s, want)
		}
	}
}

func TestPutIsGot(t *testing.T) {
	for _, n := range numbers() {
		s := Put(n)
		if len(s) != Size(n) {
			t.Fatalf("P1.4: Size(%d): %d, not %d", n, Size(n), len(s))
		}
		for _, around := range [][2]string{{"", ""}, {"", "\x00"}, {"\x80", "\x80"}, {"abc", "\xff\xff"}} {
			at := len(around[0])
			got, to, e := Get(around[0]+s+around[1], at)
			if got != n || to != at+len(s) || e != api.OK {
				t.Fatalf("P1.4: Get of Put(%d) within %q: %d, %d, %d", n, around, got, to, e)
			}
		}
		for i := range len(s) {
			refuses(t, s[:i], 0, api.ErrCut)
		}
	}
}

func TestGetOfWrongPlaces(t *testing.T) {
	for _, s := range []string{"", "\x00", "\x05\x80\x00", "\x80"} {
		for _, at := range []int{math.MinInt, -2, -1, len(s) + 1, len(s) + 2, math.MaxInt} {
			refuses(t, s, at, api.ErrArg)
		}
		refuses(t, s, len(s), api.ErrCut)
	}
}

func TestGetOfCutNumbers(t *testing.T) {
	for length := 1; length <= 9; length++ {
		for _, b := range []string{"\x80", "\x81", "\xff"} {
			refuses(t, strings.Repeat(b, length), 0, api.ErrCut)
			refuses(t, "\x00"+strings.Repeat(b, length), 1, api.ErrCut)
		}
	}
}

func TestGetOfTenthByte(t *testing.T) {
	for _, nine := range []string{strings.Repeat("\x80", 9), strings.Repeat("\xff", 9)} {
		for b := range 256 {
			for _, behind := range []string{"", "\x00", "\x01", "\x80", "\xff\x01"} {
				s := nine + string([]byte{byte(b)}) + behind
				if b != 1 {
					refuses(t, s, 0, api.ErrForm)
					refuses(t, "x"+s, 1, api.ErrForm)
					continue
				}
				want := uint64(1) << 63
				if nine[0] == 0xff {
					want = math.MaxUint64
				}
				if n, to, e := Get(s, 0); n != want || to != 10 || e != api.OK {
					t.Errorf("P1.2: %q: %d, %d, %d", s, n, to, e)
				}
			}
		}
	}
}

func TestGetOfLastByteNought(t *testing.T) {
	for length := 1; length <= 9; length++ {
		for _, b := range []string{"\x80", "\x81", "\xff"} {
			s := strings.Repeat(b, length) + "\x00"
			refuses(t, s, 0, api.ErrForm)
			refuses(t, s+"\x01", 0, api.ErrForm)
			refuses(t, "\x00\x00"+s, 2, api.ErrForm)
		}
	}
	if n, to, e := Get("\x80\x00", 1); n != 0 || to != 2 || e != api.OK {
		t.Errorf("P1.2: a lone 0 behind another byte: %d, %d, %d", n, to, e)
	}
}

// texts: all of up to most bytes out of bytes.
func texts(bytes string, most int) []string {
	l := []string{""}
	for from := 0; most > 0; most-- {
		to := len(l)
		for _, s := range l[from:to] {
			for i := range len(bytes) {
				l = append(l, s+bytes[i:i+1])
			}
		}
		from = to
	}
	return l
}

func TestOneWayToPut(t *testing.T) {
	for _, s := range texts("\x00\x01\x02\x40\x7f\x80\x81\xc0\xff", 5) {
		n, to, e := Get(s, 0)
		open := strings.IndexFunc(s, func(r rune) bool { return r < 0x80 }) < 0
		switch {
		case e == api.OK && Put(n) != s[:to]:
			t.Fatalf("P1.4: %q is got as %d, which is put as %q", s, n, Put(n))
		case open != (e == api.ErrCut):
			t.Fatalf("P1.2: %q: %d", s, e)
		case e != api.OK && (n != 0 || to != 0):
			t.Fatalf("P1.2: %q: %d, %d beside %d", s, n, to, e)
		}
		for m := range uint64(300) {
			if strings.HasPrefix(s, Put(m)) && (e != api.OK || n != m) {
				t.Fatalf("P1.4: %q begins with %d, and is got as %d, %d", s, m, n, e)
			}
		}
	}
}

func TestText(t *testing.T) {
	for _, c := range []struct{ s, want string }{
		{"", "\x00"},
		{"a", "\x01a"},
		{"\x00\xff", "\x02\x00\xff"},
		{"\u00e9", "\x02\xc3\xa9"},
		{strings.Repeat("x", 127), "\x7f" + strings.Repeat("x", 127)},
		{strings.Repeat("x", 128), "\x80\x01" + strings.Repeat("x", 128)},
		{strings.Repeat("y", 1<<14), "\x80\x80\x01" + strings.Repeat("y", 1<<14)},
	} {
		if s := Text(c.s); s != c.want {
			t.Errorf("P1.3: Text of %d bytes: %q", len(c.s), s)
		}
	}
}

func TestTextIsTaken(t *testing.T) {
	for _, length := range []int{0, 1, 2, 31, 32, 127, 128, 129, 1<<14 - 1, 1 << 14} {
		text := strings.Repeat("\x80\x00z", length)[:length]
		for _, before := range []string{"", "\x00", "abc"} {
			for _, behind := range []string{"", "y", "\x80"} {
				s, at := before+Text(text)+behind, len(before)
				for _, most := range []int{length, length + 1, math.MaxInt} {
					got, to, e := Take(s, at, most)
					if got != text || to != len(s)-len(behind) || e != api.OK {
						t.Fatalf("P1.3: %d bytes at %d, at most %d: %d bytes, %d, %d", length, at, most, len(got), to, e)
					}
				}
				for _, most := range []int{length - 1, -1, math.MinInt} {
					refusesText(t, s, at, most, api.ErrForm)
				}
			}
		}
		s := Text(text)
		for _, end := range []int{0, len(s) - length, len(s) - 1} {
			if end < len(s) {
				refusesText(t, s[:end], 0, length, api.ErrCut)
			}
		}
	}
}

func TestTakeOfWrongLengths(t *testing.T) {
	for _, c := range []struct {
		s        string
		at, most int
		want     api.Errno
	}{
		{"", -1, 5, api.ErrArg},
		{"", 1, 5, api.ErrArg},
		{"\x01a", 3, 5, api.ErrArg},
		{"\x01a", math.MaxInt, 5, api.ErrArg},
		{"\x01a", math.MinInt, 5, api.ErrArg},
		{"\x01a", 2, 5, api.ErrCut},
		{"\x80", 0, 5, api.ErrCut},
		{"\x80\x00", 0, 5, api.ErrForm},
		{"\x81\x00a", 0, 5, api.ErrForm},
		{strings.Repeat("\xff", 10), 0, 5, api.ErrForm},
		{"", -1, -1, api.ErrArg},
		{"", 0, -1, api.ErrCut},
		{"\x02a", 0, 2, api.ErrCut},
		{"\x02a", 0, 1, api.ErrForm},
		{"\x00", 0, -1, api.ErrForm},
		{"\x00", 0, math.MinInt, api.ErrForm},
		{Put(1 << 40), 0, 1<<40 - 1, api.ErrForm},
		{Put(1 << 40), 0, 1 << 40, api.ErrCut},
		{Put(math.MaxInt64), 0, math.MaxInt, api.ErrCut},
		{"abc" + Put(math.MaxInt64) + "abc", 3, math.MaxInt, api.ErrCut},
		{Put(math.MaxInt64 + 1), 0, math.MaxInt, api.ErrForm},
		{Put(math.MaxUint64), 0, math.MaxInt, api.ErrForm},
		{Put(math.MaxUint64), 0, -1, api.ErrForm},
	} {
		refusesText(t, c.s, c.at, c.most, c.want)
	}
}

func TestTextsBehindOneAnother(t *testing.T) {
	list := []string{"ann", "", "bob-2", strings.Repeat("c", 200)}
	s := ""
	for _, text := range list {
		s += Text(text)
	}
	at := 0
	for _, want := range list {
		got, to, e := Take(s, at, 200)
		if got != want || e != api.OK {
			t.Fatalf("P1.4: at %d: %q, %d; not %q", at, got, e, want)
		}
		at = to
	}
	if at != len(s) {
		t.Errorf("P1.4: the last text ends at %d, not %d", at, len(s))
	}
}
