package frame

import (
	"math"
	"math/rand"
	"slices"
	"strings"
	"testing"

	"rollcall/api"
	"rollcall/crc"
	"rollcall/digest"
	"rollcall/varint"
)

var (
	here = api.Value{Show: api.Online, Since: 5}
	away = api.Value{Show: api.Away, Prio: -3, Since: 300, Status: "lunch"}
)

// rows: a table of so many rows, each with as many bytes as may be.
func rows(count int) []api.Seen {
	var t []api.Seen
	for n := range count {
		contact := strings.Repeat("x", 14) + string([]byte{byte('a' + n/26), byte('a' + n%26)})
		t = append(t, api.Seen{Contact: contact, Value: api.Value{Show: 4, Prio: 127, Since: 1 << 40, Status: strings.Repeat("~", 32)}})
	}
	return t
}

// bodies: frames of each Kind that may be, of Seq 0.
func bodies() []api.Frame {
	return []api.Frame{
		{Kind: api.Delta, On: true, Contact: "a", Value: here},
		{Kind: api.Delta, On: true, Contact: "ann-2", Value: away},
		{Kind: api.Delta, On: true, Contact: strings.Repeat("z", 16), Value: api.Value{Show: 1, Prio: -128, Since: 1 << 40, Status: strings.Repeat(" ", 32)}},
		{Kind: api.Delta, Contact: "a"},
		{Kind: api.Delta, Contact: strings.Repeat("z", 16)},
		{Kind: api.Digest},
		{Kind: api.Digest, Sum: 1},
		{Kind: api.Digest, Sum: digest.Sum(nil)},
		{Kind: api.Digest, Sum: math.MaxUint64},
		{Kind: api.Snapshot},
		{Kind: api.Snapshot, Table: []api.Seen{}},
		{Kind: api.Snapshot, Table: []api.Seen{{Contact: "a", Value: here}}},
		{Kind: api.Snapshot, Table: []api.Seen{{Contact: "b", Value: away}, {Contact: "aa", Value: here}}},
		{Kind: api.Snapshot, Table: rows(32)},
		{Kind: api.Resync},
	}
}

// mays: frames that may be.
func mays() []api.Frame {
	var l []api.Frame
	for _, f := range bodies() {
		for _, seq := range []int{0, 1, 5, 127, 128, 300, 1<<40 - 1, 1 << 40} {
			f.Seq = seq
			l = append(l, f)
		}
	}
	return l
}

// wrongValues: values that may not be.
var wrongValues = []api.Value{{}, {Show: -1}, {Show: 5}, {Show: 1, Prio: -129}, {Show: 1, Prio: 128}, {Show: 1, Since: -1}, {Show: 1, Since: 1<<40 + 1}, {Show: 1, Status: "\n"}, {Show: 1, Status: strings.Repeat("a", 33)}}

// wrongNames: texts that are no names.
var wrongNames = []string{"", "A", "Ann", "1", "-a", "a b", "a\xff", strings.Repeat("a", 17)}

// mayNots: frames that are each wrong in one thing.
func mayNots() []api.Frame {
	l := []api.Frame{{}, {Kind: 0, Seq: 1}}
	for _, f := range bodies() {
		for _, kind := range []int{math.MinInt, -1, 0, 5, 6, 255, 256 + f.Kind, 1<<32 + f.Kind, math.MaxInt} {
			x := f
			x.Kind = kind
			l = append(l, x)
		}
		for _, seq := range []int{math.MinInt, -2, -1, 1<<40 + 1, 1 << 41, math.MaxInt} {
			x := f
			x.Seq = seq
			l = append(l, x)
		}
		l = append(l, tooMuch(f)...)
	}
	for _, v := range wrongValues {
		l = append(l,
			api.Frame{Kind: api.Delta, On: true, Contact: "a", Value: v},
			api.Frame{Kind: api.Snapshot, Table: []api.Seen{{Contact: "a", Value: v}}},
			api.Frame{Kind: api.Snapshot, Table: []api.Seen{{Contact: "a", Value: here}, {Contact: "b", Value: v}}})
	}
	for _, contact := range wrongNames {
		l = append(l,
			api.Frame{Kind: api.Delta, On: true, Contact: contact, Value: here},
			api.Frame{Kind: api.Delta, Contact: contact},
			api.Frame{Kind: api.Snapshot, Table: []api.Seen{{Contact: contact, Value: here}}})
	}
	a, b := api.Seen{Contact: "a", Value: here}, api.Seen{Contact: "b", Value: here}
	return append(l,
		api.Frame{Kind: api.Snapshot, Table: rows(33)},
		api.Frame{Kind: api.Snapshot, Table: []api.Seen{b, a}},
		api.Frame{Kind: api.Snapshot, Table: []api.Seen{a, a}},
		api.Frame{Kind: api.Snapshot, Table: []api.Seen{a, b, a}})
}

// tooMuch: f, which may be, with each of the fields that its Kind does not have.
func tooMuch(f api.Frame) []api.Frame {
	var l []api.Frame
	add := func(change func(x *api.Frame)) {
		x := f
		change(&x)
		l = append(l, x)
	}
	if f.Kind != api.Delta {
		add(func(x *api.Frame) { x.On = true })
		add(func(x *api.Frame) { x.Contact = "a" })
		add(func(x *api.Frame) { x.Contact = "\x00" })
		add(func(x *api.Frame) { x.On, x.Contact, x.Value = true, "a", here })
	}
	if f.Kind != api.Delta || !f.On {
		add(func(x *api.Frame) { x.Value = here })
		for _, v := range []api.Value{{Show: 1}, {Prio: 1}, {Since: 1}, {Status: "a"}, {Show: -1}} {
			add(func(x *api.Frame) { x.Value = v })
		}
	}
	if f.Kind != api.Digest {
		add(func(x *api.Frame) { x.Sum = 1 })
		add(func(x *api.Frame) { x.Sum = 1 << 63 })
	}
	if f.Kind != api.Snapshot {
		add(func(x *api.Frame) { x.Table = []api.Seen{{Contact: "a", Value: here}} })
		add(func(x *api.Frame) { x.Table = []api.Seen{{}} })
	}
	return l
}

func refusesFrame(t *testing.T, f api.Frame) {
	t.Helper()
	if s, e := Encode(f); s != "" || e != api.ErrArg {
		t.Errorf("P6.2: Encode of %+v: %q, %d; not empty, %d", f, s, e, api.ErrArg)
	}
}

func refuses(t *testing.T, promise, s string, want api.Errno) {
	t.Helper()
	if f, e := Decode(s); !Same(f, api.Frame{}) || e != want {
		t.Errorf("%s: Decode of %q: %+v, %d; not zero, %d", promise, s, f, e, want)
	}
}

func TestMay(t *testing.T) {
	for _, f := range mays() {
		if !May(f) {
			t.Errorf("P6.1: %+v may be", f)
		}
	}
	for _, f := range mayNots() {
		if May(f) {
			t.Errorf("P6.1: %+v may not be", f)
		}
	}
}

func TestMayOfEmptyTables(t *testing.T) {
	for _, f := range bodies() {
		if f.Kind != api.Snapshot {
			f.Table = []api.Seen{}
			if s, e := Encode(f); !May(f) || s == "" || e != api.OK {
				t.Errorf("P6.1: %+v may be: a table without rows is zero, nil or not", f)
			}
		}
	}
}

func TestMayOfEachKind(t *testing.T) {
	for kind := -300; kind <= 300; kind++ {
		// Of a Delta a Contact is asked too.
		if want := kind >= 2 && kind <= 4; May(api.Frame{Kind: kind, Seq: 7}) != want {
			t.Errorf("P6.1: Kind %d, and all else zero: %v", kind, !want)
		}
		if want := kind == 1; May(api.Frame{Kind: kind, Seq: 7, Contact: "a"}) != want {
			t.Errorf("P6.1: Kind %d, and a Contact: %v", kind, !want)
		}
	}
}

func TestSame(t *testing.T) {
	full := api.Frame{Kind: 1, Seq: 2, On: true, Contact: "a", Value: away, Sum: 3, Table: []api.Seen{{Contact: "a", Value: here}, {Contact: "b", Value: away}}}
	var l []api.Frame
	add := func(change func(f *api.Frame)) {
		f := full
		f.Table = slices.Clone(full.Table)
		change(&f)
		l = append(l, f)
	}
	add(func(f *api.Frame) {})
	add(func(f *api.Frame) { f.Kind = 2 })
	add(func(f *api.Frame) { f.Seq = -2 })
	add(func(f *api.Frame) { f.On = false })
	add(func(f *api.Frame) { f.Contact = "A" })
	add(func(f *api.Frame) { f.Value.Show = 1 })
	add(func(f *api.Frame) { f.Value.Prio = 3 })
	add(func(f *api.Frame) { f.Value.Since = 301 })
	add(func(f *api.Frame) { f.Value.Status = "lunch " })
	add(func(f *api.Frame) { f.Sum = 4 })
	add(func(f *api.Frame) { f.Table = nil })
	add(func(f *api.Frame) { f.Table = f.Table[:1] })
	add(func(f *api.Frame) { f.Table = f.Table[1:] })
	add(func(f *api.Frame) { f.Table = append(f.Table, api.Seen{}) })
	add(func(f *api.Frame) { f.Table[0], f.Table[1] = f.Table[1], f.Table[0] })
	add(func(f *api.Frame) { f.Table[1].Contact = "c" })
	add(func(f *api.Frame) { f.Table[0].Value.Show = 3 })
	add(func(f *api.Frame) { f.Table[0].Value.Prio = 1 })
	add(func(f *api.Frame) { f.Table[0].Value.Since = 6 })
	add(func(f *api.Frame) { f.Table[1].Value.Status = "" })
	for i, a := range l {
		for j, b := range l {
			if Same(a, b) != (i == j) {
				t.Errorf("P6.1: Same of number %d and number %d: %v", i, j, i != j)
			}
		}
	}
	if !Same(full, l[0]) || !Same(api.Frame{}, api.Frame{Table: []api.Seen{}}) {
		t.Error("P6.1: tables are held against each other row by row, nil or not")
	}
}

func TestEncodeOfKnownFrames(t *testing.T) {
	for want, f := range map[string]api.Frame{
		"\x04\x05":                                                {Kind: 4, Seq: 5},
		"\x04\x00":                                                {Kind: 4},
		"\x04\x80\x80\x80\x80\x80\x20":                            {Kind: 4, Seq: 1 << 40},
		"\x01\xac\x02\x00\x01a":                                   {Kind: 1, Seq: 300, Contact: "a"},
		"\x01\x00\x01\x01a\x04\x80\x05\x00":                       {Kind: 1, On: true, Contact: "a", Value: here},
		"\x01\x07\x01\x03ann\x02\x7d\xac\x02\x05lunch":            {Kind: 1, Seq: 7, On: true, Contact: "ann", Value: away},
		"\x02\x00\x00\x00\x00\x00\x00\x00\x00\x00":                {Kind: 2},
		"\x02\x01\x01\x02\x03\x04\x05\x06\x07\x08":                {Kind: 2, Seq: 1, Sum: 0x0102030405060708},
		"\x02\x80\x01\xaf\x63\xbd\x4c\x86\x01\xb7\xdf":            {Kind: 2, Seq: 128, Sum: 12638153115695167455},
		"\x03\x00\x00":                                            {Kind: 3},
		"\x03\x02\x01\x01a\x04\x80\x05\x00":                       {Kind: 3, Seq: 2, Table: []api.Seen{{Contact: "a", Value: here}}},
		"\x03\x02\x02\x01z\x04\x80\x05\x00\x02aa\x01\x80\x00\x00": {Kind: 3, Seq: 2, Table: []api.Seen{{Contact: "z", Value: here}, {Contact: "aa", Value: api.Value{Show: 1}}}},
	} {
		want = crc.Seal(want)
		if s, e := Encode(f); s != want || e != api.OK {
			t.Errorf("P6.2: Encode of %+v: %q, %d; not %q", f, s, e, want)
		}
		if got, e := Decode(want); !Same(got, f) || e != api.OK {
			t.Errorf("P6.3: Decode of %q: %+v, %d", want, got, e)
		}
	}
}

func TestEncodeOfFramesThatMayNotBe(t *testing.T) {
	for _, f := range mayNots() {
		refusesFrame(t, f)
	}
}

func TestEncodedIsDecoded(t *testing.T) {
	told := map[string]api.Frame{}
	for _, f := range mays() {
		s, e := Encode(f)
		if e != api.OK {
			t.Fatalf("P6.2: Encode of %+v: %d", f, e)
		}
		if got, e := Decode(s); !Same(got, f) || e != api.OK {
			t.Fatalf("P6.4: Decode of Encode of %+v: %+v, %d", f, got, e)
		}
		if x, ok := told[s]; ok && !Same(x, f) {
			t.Fatalf("P6.4: %+v and %+v are both encoded as %q", x, f, s)
		}
		told[s] = f
		if len(s) > api.MaxFrame {
			t.Fatalf("P6.2: Encode of %+v: %d bytes", f, len(s))
		}
	}
}

func TestDecodeOfSpoiltSeals(t *testing.T) {
	for _, s := range []string{"", "\x00", "\x04\x05", "\x04\x05\x00", "abc"} {
		refuses(t, "P6.3", s, api.ErrCut)
	}
	for _, s := range []string{"abcd", "\x00\x00\x00\x01", "\x04\x05\x00\x00\x00\x00", "\x04\x05" + strings.Repeat("\xff", 4)} {
		refuses(t, "P6.3", s, api.ErrSum)
	}
	for _, f := range mays() {
		s, _ := Encode(f)
		refuses(t, "P6.3", s[:len(s)-1], api.ErrSum)
		refuses(t, "P6.3", s[1:], api.ErrSum)
		refuses(t, "P6.3", s+"\x01", api.ErrSum)
		// The seal of a text without bytes, and of what is sealed already, is whole: there is no frame in it.
		refuses(t, "P6.3", crc.Seal(s), api.ErrForm)
	}
	refuses(t, "P6.3", crc.Seal(""), api.ErrForm)
}

func TestDecodeOfLeftOverBytes(t *testing.T) {
	for _, f := range mays() {
		s, _ := Encode(f)
		bare, _ := crc.Open(s)
		for _, behind := range []string{"\x00", "\x01", "\x80", "\xff", "a", "\x00\x00", "\x04\x80\x05\x00", bare} {
			refuses(t, "P6.3", crc.Seal(bare+behind), api.ErrForm)
		}
	}
}

func TestDecodeOfCutFrames(t *testing.T) {
	for _, f := range mays() {
		s, _ := Encode(f)
		bare, _ := crc.Open(s)
		for end := range len(bare) {
			refuses(t, "P6.3", crc.Seal(bare[:end]), api.ErrForm)
		}
	}
}

func TestDecodeOfEachKind(t *testing.T) {
	for kind := range 256 {
		b := string([]byte{byte(kind)})
		for want, bare := range map[int]string{api.Delta: "\x00\x01a", api.Digest: "\x00\x00\x00\x00\x00\x00\x00\x00", api.Snapshot: "\x02\x01a\x04\x80\x05\x00\x01b\x04\x80\x05\x00", api.Resync: ""} {
			s := crc.Seal(b + "\x07" + bare)
			if kind != want {
				refuses(t, "P6.3", s, api.ErrForm)
			} else if f, e := Decode(s); f.Kind != kind || f.Seq != 7 || e != api.OK {
				t.Errorf("P6.3: Decode of %q: %+v, %d", s, f, e)
			}
		}
	}
}

func TestDecodeOfEachOn(t *testing.T) {
	for b := range 256 {
		on := string([]byte{byte(b)})
		if b != 0 {
			refuses(t, "P6.3", crc.Seal("\x01\x07"+on+"\x01a"), api.ErrForm)
		}
		if b != 1 {
			refuses(t, "P6.3", crc.Seal("\x01\x07"+on+"\x01a\x04\x80\x05\x00"), api.ErrForm)
		}
	}
}

func TestDecodeOfWrongParts(t *testing.T) {
	for _, bare := range []string{
		// A Seq that is cut, is put another way, or is above 2^40.
		"\x04\x80", "\x04\x80\x00", "\x04\x85\x00", "\x04" + varint.Put(1<<40+1), "\x04" + varint.Put(1<<41), "\x04" + varint.Put(1<<63-1), "\x04" + varint.Put(1<<63), "\x04" + varint.Put(1<<63+5), "\x04" + varint.Put(math.MaxUint64),
		"\x04" + strings.Repeat("\xff", 10), "\x04" + strings.Repeat("\x80", 9) + "\x02", "\x02" + varint.Put(1<<40+1) + "\x00\x00\x00\x00\x00\x00\x00\x00", "\x01" + varint.Put(1<<40+1) + "\x00\x01a", "\x03" + varint.Put(1<<40+1) + "\x00",
		// A Contact that is no name, or is put another way.
		"\x01\x07\x00\x00", "\x01\x07\x00\x01A", "\x01\x07\x00\x011", "\x01\x07\x00\x11" + strings.Repeat("a", 17), "\x01\x07\x00\x81\x00a", "\x01\x07\x01\x01A\x04\x80\x05\x00",
		// A Value that may not be, or is put another way; one that is not to be there.
		"\x01\x07\x01\x01a\x00\x80\x05\x00", "\x01\x07\x01\x01a\x05\x80\x05\x00", "\x01\x07\x01\x01a\x04\x80\x85\x00\x00", "\x01\x07\x01\x01a\x04\x80\x05\x80\x00", "\x01\x07\x01\x01a\x04\x80\x05\x01\n", "\x01\x07\x01\x01a\x04\x80" + varint.Put(1<<40+1) + "\x00", "\x01\x07\x01\x01a\x04\x80\x05\x21" + strings.Repeat("a", 33), "\x01\x07\x00\x01a\x04\x80\x05\x00",
		// A table that may not be, or is put another way.
		"\x03\x07\x21", "\x03\x07\x80\x00", "\x03\x07\x81\x00\x01a\x04\x80\x05\x00", "\x03\x07\x01\x01A\x04\x80\x05\x00", "\x03\x07\x01\x01a\x05\x80\x05\x00", "\x03\x07\x02\x01b\x04\x80\x05\x00\x01a\x04\x80\x05\x00", "\x03\x07\x02\x01a\x04\x80\x05\x00\x01a\x04\x80\x05\x00", "\x03\x07\x02\x01a\x04\x80\x05\x00",
		// A sum of too few bytes, and of too many.
		"\x02\x07\x00\x00\x00\x00\x00\x00\x00", "\x02\x07\x00\x00\x00\x00\x00\x00\x00\x00\x00",
	} {
		refuses(t, "P6.3", crc.Seal(bare), api.ErrForm)
	}
	var many strings.Builder
	many.WriteString("\x03\x07\x21")
	for n := range 33 {
		many.WriteString("\x02a" + string([]byte{byte('0' + n)}) + "\x04\x80\x05\x00")
	}
	refuses(t, "P6.3", crc.Seal(many.String()), api.ErrForm)
}

func TestDecodedIsEncoded(t *testing.T) {
	r := rand.New(rand.NewSource(1))
	some := "\x00\x01\x02\x03\x04\x05\x80\x81aabb"
	decoded := map[int]int{}
	for range 400000 {
		b := make([]byte, r.Intn(12))
		for i := range b {
			b[i] = some[r.Intn(len(some))]
		}
		if len(b) > 3 && r.Intn(2) == 0 {
			b[0], b[1], b[2], b[3] = 1, 7, byte(r.Intn(3)), 1
		}
		bare := string(b)
		f, e := Decode(crc.Seal(bare))
		if e != api.OK {
			if e != api.ErrForm || !Same(f, api.Frame{}) {
				t.Fatalf("P6.3: Decode of %q, sealed: %+v, %d", bare, f, e)
			}
			continue
		}
		decoded[f.Kind]++
		if s, e := Encode(f); !May(f) || s != crc.Seal(bare) || e != api.OK {
			t.Fatalf("P6.4: %q is decoded as %+v, which is encoded as %q, %d", bare, f, s, e)
		}
	}
	for kind := api.Delta; kind <= api.Resync; kind++ {
		if decoded[kind] < 20 {
			t.Errorf("P6.4: of Kind %d only %d frames were decoded", kind, decoded[kind])
		}
	}
}

// spoil: s with the bytes of mask XORed in from at on.
func spoil(s string, at int, mask []byte) string {
	b := []byte(s)
	for i, m := range mask {
		b[at+i] ^= m
	}
	return string(b)
}

func TestEachByteChanged(t *testing.T) {
	for _, f := range bodies() {
		s, _ := Encode(f)
		for at := range len(s) {
			// Of a long frame not each mask, for the time that it takes.
			for mask := 1; mask < 256; mask += 1 + len(s)/20 {
				refuses(t, "P6.4", spoil(s, at, []byte{byte(mask)}), api.ErrSum)
			}
		}
	}
}

func TestUpToFourBytesChanged(t *testing.T) {
	r := rand.New(rand.NewSource(2))
	for _, f := range bodies() {
		s, _ := Encode(f)
		for at := range len(s) {
			for length := 1; length <= min(4, len(s)-at); length++ {
				for range 1 + 500/len(s) {
					mask := make([]byte, length)
					r.Read(mask)
					if slices.Max(mask) != 0 {
						refuses(t, "P6.4", spoil(s, at, mask), api.ErrSum)
					}
				}
			}
		}
	}
}

func TestNothingHandedInIsChanged(t *testing.T) {
	table := []api.Seen{{Contact: "b", Value: away}, {Contact: "aa", Value: here}}
	f := api.Frame{Kind: api.Snapshot, Seq: 9, Table: slices.Clone(table)}
	s, _ := Encode(f)
	May(f)
	Same(f, f)
	if !slices.Equal(f.Table, table) {
		t.Errorf("R5: the table handed in was changed: %v", f.Table)
	}
	one, _ := Decode(s)
	one.Table[0] = api.Seen{}
	if two, e := Decode(s); !Same(two, f) || e != api.OK {
		t.Errorf("R6: Decode of %q the second time: %+v, %d", s, two, e)
	}
}
