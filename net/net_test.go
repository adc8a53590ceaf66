package net

import (
	"math"
	"math/rand"
	"slices"
	"strings"
	"testing"
	"time"

	"rollcall/api"
)

// lists: of none, of one, and of some, with empty texts and such as are the same among them.
func lists() [][]string {
	return [][]string{
		nil, {}, {""}, {"a"}, {"ab", "cd"}, {"same", "same", "same"}, {"", "", "a", ""}, {"\x00", "\xff\xfe", "\u00e9", strings.Repeat("x", 2000)}, numbered(20),
	}
}

// noNumbers: such as no text of l has.
func noNumbers(l []string) []int {
	return []int{-1, -2, math.MinInt, len(l), len(l) + 1, len(l) + 500, math.MaxInt}
}

// numbered: so many texts, no two the same.
func numbered(count int) []string {
	l := make([]string, count)
	for n := range l {
		l[n] = string([]byte{byte(n), byte(n >> 8), 'z'})
	}
	return l
}

// wrongMasks: such as change no byte.
var wrongMasks = []int{0, -1, -255, -256, 256, 257, 511, 512, 1 << 32, 1<<32 + 1, math.MinInt, math.MinInt + 1, math.MaxInt}

// spoilt: l with that byte of the text number i, that there is, changed by mask.
func spoilt(l []string, i, at int, mask byte) []string {
	l = slices.Clone(l)
	l[i] = l[i][:at] + string([]byte{l[i][at] ^ mask}) + l[i][at+1:]
	return l
}

// stays: that a call told l itself, and that error.
func stays(t *testing.T, name string, l, got []string, err, want api.Errno) {
	t.Helper()
	if !slices.Equal(got, l) || err != want {
		t.Errorf("%s of %q: %q, %d, not %d", name, l, got, err, want)
	}
}

func TestSend(t *testing.T) {
	for _, l := range lists() {
		for _, more := range lists() {
			var want []string
			want = append(append(want, l...), more...)
			if got := Send(l, more); !slices.Equal(got, want) {
				t.Errorf("P22.1: Send to %q of %q: %q", l, more, got)
			}
		}
	}
	if got := Send([]string{"a", "b"}, []string{"c", "a"}); !slices.Equal(got, []string{"a", "b", "c", "a"}) {
		t.Errorf("P22.1: Send: %q", got)
	}
	// There is no number of texts above which none is sent.
	if got := Send(numbered(700), numbered(600)); len(got) != 1300 {
		t.Errorf("P22.1: Send: %d texts", len(got))
	}
}

func TestTakeAndDrop(t *testing.T) {
	for _, l := range lists() {
		for i := range l {
			rest := slices.Delete(slices.Clone(l), i, i+1)
			if s, got, err := Take(l, i); s != l[i] || !slices.Equal(got, rest) || err != api.OK {
				t.Errorf("P22.1: Take of %d of %q: %q, %q, %d", i, l, s, got, err)
			}
			if got, err := Drop(l, i); !slices.Equal(got, rest) || err != api.OK {
				t.Errorf("P22.1: Drop of %d of %q: %q, %d", i, l, got, err)
			}
		}
		for _, i := range noNumbers(l) {
			s, got, err := Take(l, i)
			stays(t, "P22.1: Take", l, got, err, api.ErrNone)
			if s != "" {
				t.Errorf("P22.1: Take of %d of %q: %q", i, l, s)
			}
			got, err = Drop(l, i)
			stays(t, "P22.1: Drop", l, got, err, api.ErrNone)
		}
	}
	s, rest, err := Take([]string{"a", "b", "c"}, 1)
	if s != "b" || !slices.Equal(rest, []string{"a", "c"}) || err != api.OK {
		t.Errorf("P22.1: Take: %q, %q, %d", s, rest, err)
	}
}

func TestTwice(t *testing.T) {
	for _, l := range lists() {
		for i := range l {
			if got, err := Twice(l, i); !slices.Equal(got, append(slices.Clone(l), l[i])) || err != api.OK {
				t.Errorf("P22.1: Twice of %d of %q: %q, %d", i, l, got, err)
			}
		}
		for _, i := range noNumbers(l) {
			got, err := Twice(l, i)
			stays(t, "P22.1: Twice", l, got, err, api.ErrNone)
		}
	}
}

func TestTwiceOfMany(t *testing.T) {
	for _, count := range []int{498, 499, 500, 501, 1000} {
		l := numbered(count)
		for _, i := range []int{0, 1, count / 2, count - 1} {
			got, err := Twice(l, i)
			if count >= 500 {
				stays(t, "P22.1: Twice", l, got, err, api.ErrFull)
			} else if !slices.Equal(got, append(slices.Clone(l), l[i])) || err != api.OK {
				t.Errorf("P22.1: Twice of %d of %d texts: %d texts, %d", i, count, len(got), err)
			}
		}
		// That there is no such text is named first.
		for _, i := range noNumbers(l) {
			got, err := Twice(l, i)
			stays(t, "P22.1: Twice", l, got, err, api.ErrNone)
		}
	}
}

func TestCorrupt(t *testing.T) {
	if got, err := Corrupt([]string{"ab"}, 0, 1, 3); !slices.Equal(got, []string{"aa"}) || err != api.OK {
		t.Errorf("P22.2: %q, %d", got, err)
	}
	for _, l := range lists() {
		for i, s := range l {
			if s == "" {
				continue
			}
			for at := range len(s) {
				for _, mask := range []int{1, 2, 127, 128, 255} {
					want := spoilt(l, i, at, byte(mask))
					for _, n := range []int{at, at + len(s), at + 7*len(s)} {
						if got, err := Corrupt(l, i, n, mask); !slices.Equal(got, want) || err != api.OK {
							t.Fatalf("P22.2: Corrupt of %d of %q at %d, mask %d: %q, %d", i, l, n, mask, got, err)
						}
					}
				}
			}
			if got, err := Corrupt(l, i, math.MaxInt, 9); !slices.Equal(got, spoilt(l, i, math.MaxInt%len(s), 9)) || err != api.OK {
				t.Errorf("P22.2: Corrupt of %d of %q far off: %q, %d", i, l, got, err)
			}
		}
	}
}

// TestCorruptOfEachMask: of each byte.
func TestCorruptOfEachMask(t *testing.T) {
	for b := range 256 {
		l := []string{"ab", string([]byte{'a', byte(b), 'c'})}
		for mask := 1; mask < 256; mask++ {
			want := []string{"ab", string([]byte{'a', byte(b ^ mask), 'c'})}
			if got, err := Corrupt(l, 1, 1, mask); !slices.Equal(got, want) || err != api.OK {
				t.Fatalf("P22.2: Corrupt of %q, mask %d: %q, %d", l, mask, got, err)
			}
		}
	}
}

// TestCorruptThatIsRefused: by one of what it is handed, or by several; that there is no such text is named first.
func TestCorruptThatIsRefused(t *testing.T) {
	for _, l := range lists() {
		for _, at := range []int{0, 1, 5, math.MaxInt, -1, -2, math.MinInt} {
			for _, mask := range append([]int{1, 7, 255}, wrongMasks...) {
				for _, i := range noNumbers(l) {
					got, err := Corrupt(l, i, at, mask)
					stays(t, "P22.2: Corrupt", l, got, err, api.ErrNone)
				}
				for i, s := range l {
					if s != "" && at >= 0 && !slices.Contains(wrongMasks, mask) {
						continue
					}
					got, err := Corrupt(l, i, at, mask)
					stays(t, "P22.2: Corrupt", l, got, err, api.ErrArg)
				}
			}
		}
	}
}

// acts: that Act tells this.
func acts(t *testing.T, l []string, s api.Step, rest []string, text string, err api.Errno) {
	t.Helper()
	got, took, e := Act(l, s)
	if !slices.Equal(got, rest) || took != text || e != err {
		t.Errorf("P22.3: Act on %q of %v: %q, %q, %d; not %q, %q, %d", l, s, got, took, e, rest, text, err)
	}
}

func TestAct(t *testing.T) {
	l := []string{"ab", "", "cde"}
	acts(t, l, api.Step{Kind: 5}, []string{"", "cde"}, "ab", api.OK)
	acts(t, l, api.Step{Kind: 5, At: 1}, []string{"ab", "cde"}, "", api.OK)
	acts(t, l, api.Step{Kind: 5, At: 2}, []string{"ab", ""}, "cde", api.OK)
	acts(t, l, api.Step{Kind: 6}, []string{"", "cde"}, "", api.OK)
	acts(t, l, api.Step{Kind: 6, At: 2}, []string{"ab", ""}, "", api.OK)
	acts(t, l, api.Step{Kind: 7}, []string{"ab", "", "cde", "ab"}, "", api.OK)
	acts(t, l, api.Step{Kind: 7, At: 2}, []string{"ab", "", "cde", "cde"}, "", api.OK)
	acts(t, l, api.Step{Kind: 8, Mask: 3}, []string{"bb", "", "cde"}, "", api.OK)
	acts(t, l, api.Step{Kind: 8, At: 2, Mask: 2*256 + 4}, []string{"ab", "", "cda"}, "", api.OK)
	for _, at := range noNumbers(l) {
		for kind := api.Deliver; kind <= api.Corrupt; kind++ {
			acts(t, l, api.Step{Kind: kind, At: at, Mask: 3}, l, "", api.ErrNone)
		}
	}
	acts(t, numbered(500), api.Step{Kind: 7}, numbered(500), "", api.ErrFull)
	acts(t, numbered(500), api.Step{Kind: 7, At: 500}, numbered(500), "", api.ErrNone)
}

// TestActIsTheCalls: of all fields, of which those that the Kind does not name change nothing.
func TestActIsTheCalls(t *testing.T) {
	for _, l := range append(lists(), numbered(499), numbered(500)) {
		for _, at := range append([]int{0, 1, len(l) - 1}, noNumbers(l)...) {
			for _, mask := range []int{0, 1, 255, 256, 257, -1} {
				s := api.Step{At: at, Mask: mask, Who: "ann", Bytes: "zz", Event: api.Event{Kind: 3}}
				text, rest, err := Take(l, at)
				s.Kind = api.Deliver
				acts(t, l, s, rest, text, err)
				rest, err = Drop(l, at)
				s.Kind = api.Drop
				acts(t, l, s, rest, "", err)
				rest, err = Twice(l, at)
				s.Kind = api.Twice
				acts(t, l, s, rest, "", err)
			}
		}
	}
}

// TestActOfMasks: a byte's number, and a mask, out of one number.
func TestActOfMasks(t *testing.T) {
	l := []string{"", "abcdefg"}
	for _, at := range []int{0, 1, 6, 7, 8, 300, 1 << 40, math.MaxInt >> 8} {
		for _, mask := range []int{0, 1, 2, 127, 128, 254, 255} {
			s := api.Step{Kind: api.Corrupt, At: 1, Mask: at*256 + mask}
			if mask == 0 {
				acts(t, l, s, l, "", api.ErrArg)
			} else {
				acts(t, l, s, spoilt(l, 1, at%7, byte(mask)), "", api.OK)
			}
			s.At = 0
			acts(t, l, s, l, "", api.ErrArg)
		}
	}
	for _, mask := range []int{-1, -2, -255, -256, -257, -512, math.MinInt, math.MinInt + 1} {
		for _, i := range noNumbers(l) {
			acts(t, l, api.Step{Kind: api.Corrupt, At: i, Mask: mask}, l, "", api.ErrNone)
		}
		for i := range l {
			acts(t, l, api.Step{Kind: api.Corrupt, At: i, Mask: mask}, l, "", api.ErrArg)
		}
		// No other Kind looks at it.
		acts(t, l, api.Step{Kind: api.Deliver, At: 1, Mask: mask}, l[:1], "abcdefg", api.OK)
		acts(t, l, api.Step{Kind: api.Drop, At: 1, Mask: mask}, l[:1], "", api.OK)
		acts(t, l, api.Step{Kind: api.Twice, Mask: mask}, []string{"", "abcdefg", ""}, "", api.OK)
	}
}

func TestActOfOtherKinds(t *testing.T) {
	for _, l := range append(lists(), numbered(500)) {
		for _, kind := range []int{0, 1, 2, 3, 4, 9, 10, 11, -1, -5, 256 + 5, 1<<32 + 5, math.MinInt, math.MaxInt} {
			for _, at := range []int{0, -1, len(l)} {
				acts(t, l, api.Step{Kind: kind, At: at, Mask: 3}, l, "", api.ErrArg)
				acts(t, l, api.Step{Kind: kind, At: at, Mask: -1}, l, "", api.ErrArg)
			}
		}
	}
}

// TestCorruptedTwiceTheSameWay: P22.4.
func TestCorruptedTwiceTheSameWay(t *testing.T) {
	r := rand.New(rand.NewSource(1))
	for range 5000 {
		l := make([]string, 1+r.Intn(4))
		for n := range l {
			text := make([]byte, 1+r.Intn(40))
			r.Read(text)
			l[n] = string(text)
		}
		i, at, mask := r.Intn(len(l)), r.Intn(100), 1+r.Intn(255)
		other, err := Corrupt(l, i, at, mask)
		if err != api.OK || len(other) != len(l) || len(other[i]) != len(l[i]) || other[i] == l[i] {
			t.Fatalf("P22.4: Corrupt of %d of %q at %d, mask %d: %q, %d", i, l, at, mask, other, err)
		}
		for n := range l {
			if n != i && other[n] != l[n] {
				t.Fatalf("P22.4: of %q, number %d was changed: %q", l, i, other)
			}
		}
		if again, err := Corrupt(other, i, at, mask); !slices.Equal(again, l) || err != api.OK {
			t.Fatalf("P22.4: Corrupt of %q behind %q: %q, %d", other, l, again, err)
		}
	}
}

// TestWhatIsTakenWasSent: P22.4, whatever is dropped, or comes twice, or in another order.
func TestWhatIsTakenWasSent(t *testing.T) {
	r := rand.New(rand.NewSource(2))
	for range 200 {
		var l []string
		sent, taken := map[string]bool{}, 0
		for n := range 300 {
			s := api.Step{Kind: api.Deliver + r.Intn(3), At: r.Intn(len(l)+2) - 1, Mask: r.Intn(600)}
			if r.Intn(2) == 0 {
				text := string([]byte{byte(n), byte(n >> 8)})
				l, sent[text] = Send(l, []string{text}), true
				continue
			}
			rest, text, err := Act(l, s)
			if err == api.OK && s.Kind == api.Deliver {
				taken++
				if !sent[text] || text != l[s.At] {
					t.Fatalf("P22.4: %q was taken", text)
				}
			}
			l = rest
		}
		if taken == 0 {
			t.Error("P22.4: nothing was taken")
		}
	}
}

// TestArgumentsStay: what is handed in is not changed, neither within its length nor behind, and an answer not by a later call.
func TestArgumentsStay(t *testing.T) {
	whole := []string{"ab", "cd", "ef", "behind", "further behind"}
	kept := slices.Clone(whole)
	calls := map[string]func(l []string) []string{
		"Send":           func(l []string) []string { return Send(l, []string{"gh", "ij"}) },
		"Send of itself": func(l []string) []string { return Send(l, l) },
		"Send of none":   func(l []string) []string { return Send(l, nil) },
		"Send to none":   func(l []string) []string { return Send(nil, l) },
		"Take":           func(l []string) []string { _, rest, _ := Take(l, 0); return rest },
		"Take of -1":     func(l []string) []string { _, rest, _ := Take(l, -1); return rest },
		"Drop":           func(l []string) []string { rest, _ := Drop(l, 1); return rest },
		"Drop the last":  func(l []string) []string { rest, _ := Drop(l, len(l)-1); return rest },
		"Twice":          func(l []string) []string { rest, _ := Twice(l, 1); return rest },
		"Corrupt":        func(l []string) []string { rest, _ := Corrupt(l, 1, 1, 9); return rest },
	}
	for kind := range 10 {
		calls["Act "+string(rune('0'+kind))] = func(l []string) []string {
			rest, _, _ := Act(l, api.Step{Kind: kind, At: 1, Mask: 300})
			return rest
		}
	}
	for name, call := range calls {
		l := whole[:3]
		told := call(l)
		had := slices.Clone(told)
		if !slices.Equal(whole, kept) {
			t.Fatalf("R5: %s changed what it was handed: %q", name, whole)
		}
		for _, further := range calls {
			if len(told) >= 2 {
				further(told)
				further(told[:2])
			}
			further(l)
		}
		if !slices.Equal(told, had) || !slices.Equal(whole, kept) {
			t.Fatalf("R5: what %s told was changed: %q, %q", name, told, whole)
		}
	}
}

func TestMuchIsDoneSoon(t *testing.T) {
	begin := time.Now()
	l := numbered(1 << 16)
	long := []string{strings.Repeat("x", 1<<24)}
	for n := range 20 {
		Send(l, l)
		Take(l, n)
		Drop(l, n)
		Twice(l, n)
		Corrupt(l, n, math.MaxInt, 5)
		Corrupt(long, 0, math.MaxInt, 5)
	}
	if took := time.Since(begin); took > 10*time.Second {
		t.Errorf("it took %v", took)
	}
}
