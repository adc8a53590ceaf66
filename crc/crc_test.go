package crc

import (
	"hash/crc32"
	"math/rand"
	"strings"
	"testing"

	"rollcall/api"
)

// random: a text of so many bytes, the same one for a source in the same state.
func random(r *rand.Rand, length int) string {
	b := make([]byte, length)
	r.Read(b)
	return string(b)
}

// xor: each byte of a XOR that of b; what is behind the shorter one is left.
func xor(a, b string) string {
	l := []byte(a)
	for i := range min(len(a), len(b)) {
		l[i] ^= b[i]
	}
	return string(l)
}

func refuses(t *testing.T, promise, s string, want api.Errno) {
	t.Helper()
	if text, e := Open(s); text != "" || e != want {
		t.Errorf("%s: Open of %q: %q, %d; not empty, %d", promise, s, text, e, want)
	}
}

func TestStepOfKnownSums(t *testing.T) {
	for _, c := range []struct {
		c    uint32
		b    byte
		want uint32
	}{
		{0, 0, 0},
		{0, 1, 0x77073096},
		{1, 0, 0x77073096},
		{1, 1, 0},
		{0, 0x80, 0xedb88320},
		{0x80, 0, 0xedb88320},
		{0x80, 0x80, 0},
		{0x100, 0, 1},
		{0xffffff00, 0, 0x00ffffff},
		{0xffffffff, 0xff, 0x00ffffff},
		{0x80000000, 0, 0x00800000},
	} {
		if x := Step(c.c, c.b); x != c.want {
			t.Errorf("P2.1: Step(%x, %x): %x, not %x", c.c, c.b, x, c.want)
		}
	}
}

func TestStepAgainstLibrary(t *testing.T) {
	r := rand.New(rand.NewSource(1))
	for range 2000 {
		c := r.Uint32()
		for _, b := range []byte{0, 1, 0x7f, 0x80, 0xff, byte(r.Intn(256))} {
			want := crc32.IEEETable[byte(c)^b] ^ c>>8
			if x := Step(c, b); x != want {
				t.Fatalf("P2.1: Step(%x, %x): %x, not %x", c, b, x, want)
			}
		}
	}
}

func TestSumOfKnownTexts(t *testing.T) {
	for s, want := range map[string]uint32{
		"":                 0,
		"123456789":        0xcbf43926,
		"a":                0xe8b7be43,
		"\x00":             0xd202ef8d,
		"\x00\x00\x00\x00": 0x2144df1c,
		"\xff\xff\xff\xff": 0xffffffff,
	} {
		if c := Sum(s); c != want {
			t.Errorf("P2.2: Sum of %q: %x, not %x", s, c, want)
		}
	}
}

func TestSumIsOfSteps(t *testing.T) {
	r := rand.New(rand.NewSource(2))
	for length := range 300 {
		s := random(r, length)
		c := uint32(0xffffffff)
		for i := range length {
			c = Step(c, s[i])
		}
		if sum := Sum(s); sum != c^0xffffffff || sum != crc32.ChecksumIEEE([]byte(s)) {
			t.Fatalf("P2.2: Sum of %q: %x", s, sum)
		}
		if again := Sum(s); again != c^0xffffffff {
			t.Fatalf("R6: Sum of %q: %x the second time", s, again)
		}
	}
}

func TestSealHasLowestByteFirst(t *testing.T) {
	for s, want := range map[string]string{
		"":          "\x00\x00\x00\x00",
		"123456789": "123456789\x26\x39\xf4\xcb",
		"a":         "a\x43\xbe\xb7\xe8",
	} {
		if sealed := Seal(s); sealed != want {
			t.Errorf("P2.3: Seal of %q: %q, not %q", s, sealed, want)
		}
	}
	refuses(t, "P2.3", "123456789\xcb\xf4\x39\x26", api.ErrSum)
	refuses(t, "P2.3", "a\xe8\xb7\xbe\x43", api.ErrSum)
}

func TestOpenOfFewBytes(t *testing.T) {
	for _, s := range []string{"", "\x00", "\x00\x00", "\x00\x00\x00", "a", "ab", "abc", "\xff\xff\xff"} {
		refuses(t, "P2.3", s, api.ErrCut)
	}
}

func TestOpenOfAnotherSum(t *testing.T) {
	for _, s := range []string{"\x00\x00\x00\x01", "\xff\xff\xff\xff", "abcd", "a\x00\x00\x00\x00", "123456789\x26\x39\xf4", "23456789\x26\x39\xf4\xcb", "123456789\x26\x39\xf4\xcb\x00", "\x26\x39\xf4\xcb123456789"} {
		refuses(t, "P2.3", s, api.ErrSum)
	}
}

func TestSealedIsOpened(t *testing.T) {
	r := rand.New(rand.NewSource(3))
	for length := range 300 {
		s := random(r, length)
		sealed := Seal(s)
		if len(sealed) != length+4 || sealed[:length] != s {
			t.Fatalf("P2.3: Seal of %q: %q", s, sealed)
		}
		if text, e := Open(sealed); text != s || e != api.OK {
			t.Fatalf("P2.4: Open of Seal of %q: %q, %d", s, text, e)
		}
		if text, e := Open(Seal(sealed)); text != sealed || e != api.OK {
			t.Fatalf("P2.4: Open of Seal of %q: %q, %d", sealed, text, e)
		}
		if length > 0 {
			refuses(t, "P2.3", sealed[:len(sealed)-1], api.ErrSum)
		}
	}
}

func TestEachByteChanged(t *testing.T) {
	for _, s := range []string{"", "a", "ann\x01\x00", strings.Repeat("presence", 9)} {
		sealed := Seal(s)
		for at := range len(sealed) {
			for mask := 1; mask < 256; mask++ {
				spoilt := strings.Repeat("\x00", at) + string([]byte{byte(mask)})
				refuses(t, "P2.4", xor(sealed, spoilt), api.ErrSum)
			}
		}
	}
}

func TestUpToFourBytesChanged(t *testing.T) {
	r := rand.New(rand.NewSource(4))
	for _, length := range []int{0, 1, 3, 40} {
		sealed := Seal(random(r, length))
		for at := range len(sealed) {
			for burst := 1; burst <= min(4, len(sealed)-at); burst++ {
				for range 200 {
					mask := random(r, burst)
					if mask == strings.Repeat("\x00", burst) {
						continue
					}
					refuses(t, "P2.4", xor(sealed, strings.Repeat("\x00", at)+mask), api.ErrSum)
				}
			}
		}
	}
}

func TestSumsDifferAsTexts(t *testing.T) {
	r := rand.New(rand.NewSource(5))
	for length := range 200 {
		a, b := random(r, length), random(r, length)
		noughts := strings.Repeat("\x00", length)
		if Sum(a)^Sum(b) != Sum(xor(a, b))^Sum(noughts) {
			t.Fatalf("P2.4: sums of %q and %q: %x, %x", a, b, Sum(a), Sum(b))
		}
	}
}
