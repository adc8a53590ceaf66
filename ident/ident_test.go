package ident

import (
	"math"
	"math/rand"
	"slices"
	"strings"
	"testing"

	"rollcall/api"
	"rollcall/varint"
)

const (
	letters  = "abcdefghijklmnopqrstuvwxyz"
	capitals = "ABCDEFGHIJKLMNOPQRSTUVWXYZ"
	inner    = "0123456789-"
	longest  = "a-name-of-16-let"
)

// wrong: texts that are no names, and don't become any by folding.
var wrong = []string{
	"", "-", "0", "9", "1a", "-a", "9ann", "A-name-of-17-lett", longest + "s", strings.Repeat("a", 17), strings.Repeat("z", 5000), strings.Repeat("A", 17),
	" ", " a", "a ", "a b", "a_b", "a.b", "a+b", "a/b", "a:b", "a`b", "a{b", "a@b", "a[b", "\x00", "a\x00", "a\x7f", "a\n", "_a", "@a", "[a", "`a", "{a",
	"\x80", "a\x80", "\xff", "a\xff", "a\xe1", "\xc1", "a\xc3", "\u00e9", "ann\u00e9", "\u00c9a", "\u212a", "a\u212a", "a\u017f", "\ufffd", "a\ufffd", "\uff41", "a\uff11", "a\u2010", "a\u2212",
}

// right: names.
var right = []string{"a", "z", "m", "ab", "a0", "a9", "a-", "z--", "ann", "ann-2", "k9", "a---------------", "a123456789012345", longest, strings.Repeat("z", 16)}

// oneByte: all texts of one byte.
func oneByte() []string {
	var l []string
	for b := range 256 {
		l = append(l, string([]byte{byte(b)}))
	}
	return l
}

// isName: what a name is, told another way.
func isName(s string) bool {
	return len(s) >= 1 && len(s) <= 16 && strings.Trim(s, letters+inner) == "" && !strings.ContainsAny(s[:1], inner) &&
		!slices.ContainsFunc([]byte(s), func(b byte) bool { return !strings.Contains(letters+inner, string([]byte{b})) })
}

// random: texts of up to most bytes, mostly such as stand in names.
func random(r *rand.Rand, count, most int) []string {
	bytes := letters + capitals + inner + letters
	l := make([]string, count)
	for i := range l {
		b := make([]byte, r.Intn(most+1))
		for j := range b {
			b[j] = bytes[r.Intn(len(bytes))]
			if r.Intn(60) == 0 {
				b[j] = byte(r.Intn(256))
			}
		}
		l[i] = string(b)
	}
	return l
}

func refusesFold(t *testing.T, s string) {
	t.Helper()
	if f, ok := Fold(s); f != "" || ok {
		t.Errorf("P3.1: Fold of %q: %q, %v; not empty, false", s, f, ok)
	}
}

func refusesTake(t *testing.T, s string, at int, want api.Errno) {
	t.Helper()
	if name, to, e := Take(s, at); name != "" || to != 0 || e != want {
		t.Errorf("P3.2: Take of %q at %d: %q, %d, %d; not empty, 0, %d", s, at, name, to, e, want)
	}
}

func TestIs(t *testing.T) {
	for _, s := range right {
		if !Is(s) {
			t.Errorf("P3.1: %q is a name", s)
		}
	}
	for _, s := range wrong {
		if Is(s) {
			t.Errorf("P3.1: %q is no name", s)
		}
	}
	for _, s := range []string{"A", "Ann", "aNn", "anN", "ANN", "A-NAME-OF-16-LET"} {
		if Is(s) {
			t.Errorf("P3.1: %q has capital letters", s)
		}
	}
}

func TestIsOfEachByte(t *testing.T) {
	for _, b := range oneByte() {
		letter := strings.Contains(letters, b)
		if Is(b) != letter {
			t.Errorf("P3.1: Is of %q: %v", b, Is(b))
		}
		for _, behind := range []string{"", "a", "-", "0", "nn-2"} {
			if Is(b+behind) != letter {
				t.Errorf("P3.1: Is of %q: %v", b+behind, Is(b+behind))
			}
			s := "x" + b + behind
			if want := letter || strings.Contains(inner, b); Is(s) != want {
				t.Errorf("P3.1: Is of %q: %v", s, Is(s))
			}
		}
	}
}

func TestIsOfEachLength(t *testing.T) {
	for length := range 300 {
		for _, s := range []string{strings.Repeat("q", length), ("q" + strings.Repeat("-", length))[:length], ("q" + strings.Repeat("7", length))[:length]} {
			if want := length >= 1 && length <= api.MaxName; Is(s) != want {
				t.Errorf("P3.1: a name of %d bytes: %v", length, Is(s))
			}
		}
	}
	// Sixteen runes, more bytes.
	if s := strings.Repeat("\u00e9", 8); Is(s) || Is("a"+s) {
		t.Error("P3.1: a name of letters that are not a to z")
	}
}

func TestFold(t *testing.T) {
	for s, want := range map[string]string{
		"Ann-2":            "ann-2",
		"A":                "a",
		"Z":                "z",
		"aZ":               "az",
		"ANN":              "ann",
		"a-B-c-9":          "a-b-c-9",
		capitals[:16]:      letters[:16],
		capitals[10:]:      letters[10:],
		"A-NAME-OF-16-LET": longest,
	} {
		if f, ok := Fold(s); f != want || !ok {
			t.Errorf("P3.1: Fold of %q: %q, %v; not %q", s, f, ok, want)
		}
	}
	for _, s := range wrong {
		refusesFold(t, s)
	}
	for _, s := range []string{"-A", "0A", "A_B", "A\xff", "A\u212a", "\u212aA", "A\u0130", "A\u00c9", "A[", "A@", capitals[:17]} {
		refusesFold(t, s)
	}
}

func TestFoldOfEachByte(t *testing.T) {
	for _, b := range oneByte() {
		for _, around := range [][2]string{{"", ""}, {"", "Q-7"}, {"Q", ""}, {"Q", "Q-7"}} {
			s := around[0] + b + around[1]
			want := strings.ToLower(around[0]) + b + strings.ToLower(around[1])
			if i := strings.Index(capitals, b); i >= 0 {
				want = strings.ToLower(around[0]) + letters[i:i+1] + strings.ToLower(around[1])
			}
			if !isName(want) {
				refusesFold(t, s)
			} else if f, ok := Fold(s); f != want || !ok {
				t.Errorf("P3.1: Fold of %q: %q, %v; not %q", s, f, ok, want)
			}
		}
	}
}

func TestFoldedIsName(t *testing.T) {
	r := rand.New(rand.NewSource(1))
	for _, s := range slices.Concat(right, wrong, random(r, 20000, 18)) {
		if Is(s) != isName(s) {
			t.Fatalf("P3.1: Is of %q: %v", s, Is(s))
		}
		f, ok := Fold(s)
		if Is(s) && (f != s || !ok) {
			t.Fatalf("P3.4: the name %q is folded to %q, %v", s, f, ok)
		}
		if !ok {
			if f != "" {
				t.Fatalf("P3.1: Fold of %q: %q, false", s, f)
			}
			continue
		}
		if !Is(f) || !strings.EqualFold(f, s) || len(f) != len(s) {
			t.Fatalf("P3.4: Fold of %q: %q", s, f)
		}
		if again, ok := Fold(f); again != f || !ok {
			t.Fatalf("P3.4: Fold of %q, folded: %q, %v", f, again, ok)
		}
	}
}

func TestPut(t *testing.T) {
	for s, want := range map[string]string{"a": "\x01a", "ann-2": "\x05ann-2", longest: "\x10" + longest} {
		if p, ok := Put(s); p != want || !ok {
			t.Errorf("P3.2: Put of %q: %q, %v", s, p, ok)
		}
	}
	for _, s := range append([]string{"A", "Ann", "ann-B", "A-NAME-OF-16-LET"}, wrong...) {
		if p, ok := Put(s); p != "" || ok {
			t.Errorf("P3.2: Put of %q: %q, %v; not empty, false", s, p, ok)
		}
	}
}

func TestPutIsTaken(t *testing.T) {
	for _, name := range right {
		put, ok := Put(name)
		if put != varint.Text(name) || !ok {
			t.Errorf("P3.2: Put of %q: %q, %v", name, put, ok)
		}
		for _, around := range [][2]string{{"", ""}, {"", "a"}, {"\x80", "\x00"}, {"abc", "\xff"}, {"\x01", put}} {
			s, at := around[0]+put+around[1], len(around[0])
			got, to, e := Take(s, at)
			if got != name || to != at+len(put) || e != api.OK {
				t.Errorf("P3.2: Take of %q at %d: %q, %d, %d", s, at, got, to, e)
			}
		}
		for end := range len(put) {
			refusesTake(t, put[:end], 0, api.ErrCut)
			refusesTake(t, "x"+put[:end], 1, api.ErrCut)
		}
	}
}

func TestTakeOfNoName(t *testing.T) {
	for _, s := range append([]string{"A", "Ann", "ann-B", "A-NAME-OF-16-LET"}, wrong...) {
		refusesTake(t, varint.Text(s), 0, api.ErrForm)
		refusesTake(t, "\x01a"+varint.Text(s)+"\x01a", 2, api.ErrForm)
	}
}

func TestTakeOfWrongBytes(t *testing.T) {
	for _, c := range []struct {
		s    string
		at   int
		want api.Errno
	}{
		{"", -1, api.ErrArg},
		{"", 1, api.ErrArg},
		{"\x01a", -1, api.ErrArg},
		{"\x01a", 3, api.ErrArg},
		{"\x01a", math.MinInt, api.ErrArg},
		{"\x01a", math.MaxInt, api.ErrArg},
		{"", 0, api.ErrCut},
		{"\x01a", 2, api.ErrCut},
		{"\x01", 0, api.ErrCut},
		{"\x02A", 0, api.ErrCut},
		{"\x10" + longest[:15], 0, api.ErrCut},
		{"\x80", 0, api.ErrCut},
		{"\x81\x00a", 0, api.ErrForm},
		{"\x11", 0, api.ErrForm},
		{"\x11" + longest, 0, api.ErrForm},
		{"\x7f" + longest, 0, api.ErrForm},
		{varint.Put(math.MaxUint64) + "a", 0, api.ErrForm},
		{strings.Repeat("\xff", 10), 0, api.ErrForm},
		{strings.Repeat("\xff", 9), 0, api.ErrCut},
		{"\x00", 0, api.ErrForm},
		{"\x00a", 0, api.ErrForm},
		{"\x01\x01a", 0, api.ErrForm},
	} {
		refusesTake(t, c.s, c.at, c.want)
	}
}

func TestNamesBehindOneAnother(t *testing.T) {
	s := ""
	for _, name := range right {
		put, _ := Put(name)
		s += put
	}
	at := 0
	for _, want := range right {
		name, to, e := Take(s, at)
		if name != want || e != api.OK {
			t.Fatalf("P3.2: at %d: %q, %d; not %q", at, name, e, want)
		}
		at = to
	}
	refusesTake(t, s, at, api.ErrCut)
}

func TestLess(t *testing.T) {
	rising := []string{"", "\x00", "-", "0", "A", "a", "b", "z", "\x80", "\xff", "\x00\x00", "\x00\xff", "aa", "ab", "az", "b-", "b0", "ba", "\xff\x00", "\xff\xff", "aaa", "\u00e9\x00", strings.Repeat("a", 16), strings.Repeat("a", 15) + "b", strings.Repeat("a", 300)}
	for i, a := range rising {
		for j, b := range rising {
			if Less(a, b) != (i < j) {
				t.Errorf("P3.3: Less of %q and %q: %v", a, b, Less(a, b))
			}
		}
	}
}

func TestMerge(t *testing.T) {
	for _, c := range []struct{ a, b, want []string }{
		{nil, nil, nil},
		{[]string{}, nil, nil},
		{[]string{""}, nil, []string{""}},
		{[]string{"a"}, nil, []string{"a"}},
		{nil, []string{"a"}, []string{"a"}},
		{[]string{"a"}, []string{"a"}, []string{"a"}},
		{[]string{"a", "a", "a"}, nil, []string{"a"}},
		{nil, []string{"b", "b"}, []string{"b"}},
		{[]string{"b", "a"}, nil, []string{"a", "b"}},
		{[]string{"b"}, []string{"a"}, []string{"a", "b"}},
		{[]string{"aa", "b"}, []string{"c", "ab"}, []string{"b", "c", "aa", "ab"}},
		{[]string{"bob", "ann", "bob"}, []string{"zed", "ann", "al"}, []string{"al", "ann", "bob", "zed"}},
		{[]string{"Ann", "ann"}, []string{"\xff", "", "ann"}, []string{"", "\xff", "Ann", "ann"}},
		{[]string{"b", "a", "b", "a"}, []string{"a", "c", "a", "c"}, []string{"a", "b", "c"}},
	} {
		if l := Merge(c.a, c.b); !slices.Equal(l, c.want) {
			t.Errorf("P3.3: Merge of %q and %q: %q, not %q", c.a, c.b, l, c.want)
		}
	}
}

func TestMergeOfManyTexts(t *testing.T) {
	r := rand.New(rand.NewSource(2))
	for range 300 {
		a, b := random(r, r.Intn(40), r.Intn(4)), random(r, r.Intn(40), r.Intn(4))
		l := Merge(a, b)
		for i, s := range l {
			if i > 0 && !Less(l[i-1], s) {
				t.Fatalf("P3.3: %q does not rise", l)
			}
			if !slices.Contains(a, s) && !slices.Contains(b, s) {
				t.Fatalf("P3.3: %q is of neither %q nor %q", s, a, b)
			}
		}
		for _, s := range slices.Concat(a, b) {
			if !slices.Contains(l, s) {
				t.Fatalf("P3.3: %q is missing in %q", s, l)
			}
		}
		if !slices.Equal(l, Merge(b, a)) {
			t.Fatalf("P3.3: Merge of %q and %q, changed about", a, b)
		}
	}
}

func TestMergeLeavesWhatIsHandedIn(t *testing.T) {
	a, b := []string{"c", "a", "a", "spare"}, []string{"b", "a"}
	l := Merge(a[:3], b)
	if !slices.Equal(a, []string{"c", "a", "a", "spare"}) || !slices.Equal(b, []string{"b", "a"}) {
		t.Errorf("R5: Merge changed what it was handed: %q, %q", a, b)
	}
	for _, alone := range [][2][]string{{a, nil}, {nil, a}} {
		if l := Merge(alone[0], alone[1]); !slices.Equal(l, []string{"a", "c", "spare"}) || !slices.Equal(a, []string{"c", "a", "a", "spare"}) {
			t.Errorf("R5: Merge of one list: %q, and left %q", l, a)
		}
	}
	if !slices.Equal(l, []string{"a", "b", "c"}) {
		t.Errorf("R5: an answer was changed by a later call: %q", l)
	}
}
