package subs

import (
	"math"
	"slices"
	"testing"

	"rollcall/api"
)

// items: all there are.
func items() []api.Item {
	var l []api.Item
	for n := range 32 {
		l = append(l, api.Item{To: n&1 != 0, From: n&2 != 0, Out: n&4 != 0, In: n&8 != 0, Block: n&16 != 0})
	}
	return l
}

// pairs: all there are that may be.
func pairs() []pair {
	var l []pair
	// Of a, whom each sees and who was asked for tells all; whom they block is free.
	for _, bare := range []api.Item{{}, {To: true}, {From: true}, {To: true, From: true}, {Out: true}, {In: true}, {Out: true, In: true}, {To: true, In: true}, {From: true, Out: true}} {
		for n := range 4 {
			a := bare
			a.Block = n&1 != 0
			l = append(l, pair{a, api.Item{To: a.From, From: a.To, Out: a.In, In: a.Out, Block: n&2 != 0}})
		}
	}
	return l
}

// wrongKinds: those of no event of two users.
var wrongKinds = []int{0, 7, 8, -1, -6, 9, 100, 256 + 1, 1<<32 + 1, 1<<40 + 5, math.MaxInt, math.MinInt, math.MinInt + 1}

// swap: p from the other side.
func swap(p pair) pair {
	return pair{p.b, p.a}
}

// act: Act, of a pair.
func act(p pair, kind int) (pair, api.Errno) {
	a, b, err := Act(p.a, p.b, kind)
	return pair{a, b}, err
}

func TestMayOfAllPairs(t *testing.T) {
	l := pairs()
	if len(l) != 36 {
		t.Fatalf("%d pairs", len(l))
	}
	for _, a := range items() {
		for _, b := range items() {
			if got, want := May(a, b), slices.Contains(l, pair{a, b}); got != want {
				t.Errorf("P7.1: May of %v, %v: %v", a, b, got)
			}
		}
	}
}

func TestMayNot(t *testing.T) {
	for i, p := range []pair{
		{a: api.Item{To: true}},
		{a: api.Item{From: true}},
		{a: api.Item{Out: true}},
		{a: api.Item{In: true}},
		{b: api.Item{To: true}},
		{b: api.Item{From: true}},
		{b: api.Item{Out: true}},
		{b: api.Item{In: true}},
		{api.Item{To: true}, api.Item{To: true}},
		{api.Item{Out: true}, api.Item{Out: true}},
		{api.Item{To: true}, api.Item{In: true}},
		{api.Item{To: true, Out: true}, api.Item{From: true, In: true}},
		{api.Item{From: true, In: true}, api.Item{To: true, Out: true}},
		{api.Item{To: true, From: true, Out: true, In: true}, api.Item{To: true, From: true, Out: true, In: true}},
	} {
		if May(p.a, p.b) {
			t.Errorf("P7.1: case %d: %v may be", i, p)
		}
	}
}

func TestSeesOfAllPairs(t *testing.T) {
	for _, a := range items() {
		for _, b := range items() {
			want := a.To
			if a.Block || b.Block {
				want = false
			}
			// Not asked: whether they may be.
			if got := Sees(a, b); got != want {
				t.Errorf("P7.1: Sees of %v, %v: %v", a, b, got)
			}
		}
	}
	if !Sees(api.Item{To: true}, api.Item{From: true}) || Sees(api.Item{From: true}, api.Item{To: true}) {
		t.Error("P7.1: the one is seen, and does not see")
	}
	if Sees(api.Item{To: true, Block: true}, api.Item{From: true}) || Sees(api.Item{To: true}, api.Item{From: true, Block: true}) {
		t.Error("P7.1: seen past a Block")
	}
}

func TestEmptyAndName(t *testing.T) {
	words := []string{"none", "to", "from", "both"}
	for n, a := range items() {
		if got := Empty(a); got != (n == 0) {
			t.Errorf("P7.1: Empty of %v: %v", a, got)
		}
		if got := Name(a); got != words[n%4] {
			t.Errorf("P7.1: Name of %v: %q", a, got)
		}
	}
	for word, a := range map[string]api.Item{
		"both": {To: true, From: true, Block: true},
		"to":   {To: true, In: true, Block: true},
		"from": {From: true, Out: true},
		"none": {Out: true, In: true, Block: true},
	} {
		if got := Name(a); got != word {
			t.Errorf("P7.1: Name of %v: %q, not %q", a, got, word)
		}
	}
}

func TestActOfPairsThatMayNotBe(t *testing.T) {
	for _, a := range items() {
		for _, b := range items() {
			if May(a, b) {
				continue
			}
			for kind := -1; kind <= 8; kind++ {
				p := pair{a, b}
				// Told ahead of what a Block, or what is not so, would tell.
				if got, err := act(p, kind); got != p || err != api.ErrArg {
					t.Errorf("P7.2: Act of %v, %d: %v, %d", p, kind, got, err)
				}
			}
		}
	}
}

func TestActOfWrongKinds(t *testing.T) {
	for _, p := range pairs() {
		for _, kind := range wrongKinds {
			if got, err := act(p, kind); got != p || err != api.ErrArg {
				t.Errorf("P7.2: Act of %v, %d: %v, %d", p, kind, got, err)
			}
		}
	}
}

// want: P7.2, word by word, of a pair that may be and a kind 1 to 6.
func want(p pair, kind int) (pair, api.Errno) {
	a, b := p.a, p.b
	var err api.Errno
	if (kind == 1 || kind == 2) && (a.Block || b.Block) {
		err = 8
	} else if kind == 1 && (a.To || a.Out) || kind == 2 && !a.In || kind == 3 && !(a.To || a.Out) || kind == 4 && !(a.From || a.In) || kind == 5 && a.Block || kind == 6 && !a.Block {
		err = 7
	}
	if err != 0 {
		return p, err
	}
	switch kind {
	case 1:
		a.Out, b.In = true, true
	case 2:
		a.In, b.Out, a.From, b.To = false, false, true, true
	case 3:
		a.To, a.Out, b.From, b.In = false, false, false, false
	case 4:
		a.From, a.In, b.To, b.Out = false, false, false, false
	case 5:
		a.Block = true
	case 6:
		a.Block = false
	}
	return pair{a, b}, 0
}

func TestActOfAllPairs(t *testing.T) {
	for _, p := range pairs() {
		for kind := 1; kind <= 6; kind++ {
			got, err := act(p, kind)
			if w, e := want(p, kind); got != w || err != e {
				t.Errorf("P7.2: Act of %v, %d: %v, %d; not %v, %d", p, kind, got, err, w, e)
			}
			if again, e := act(p, kind); again != got || e != err {
				t.Errorf("R6: Act of %v, %d the second time: %v, %d", p, kind, again, e)
			}
		}
	}
}

func TestActByKind(t *testing.T) {
	is := api.Item{}
	to, from := api.Item{To: true}, api.Item{From: true}
	out, in := api.Item{Out: true}, api.Item{In: true}
	both := api.Item{To: true, From: true}
	blocks := api.Item{Block: true}
	for i, c := range []struct {
		a, b api.Item
		kind int
		c, d api.Item
		err  api.Errno
	}{
		{is, is, api.Subscribe, out, in, api.OK},
		{in, out, api.Subscribe, api.Item{Out: true, In: true}, api.Item{Out: true, In: true}, api.OK},
		{from, to, api.Subscribe, api.Item{From: true, Out: true}, api.Item{To: true, In: true}, api.OK},
		{to, from, api.Subscribe, to, from, api.ErrState},
		{out, in, api.Subscribe, out, in, api.ErrState},
		{blocks, is, api.Subscribe, blocks, is, api.ErrBlock},
		{is, blocks, api.Subscribe, is, blocks, api.ErrBlock},
		// Of two errors the Block's.
		{api.Item{To: true, Block: true}, from, api.Subscribe, api.Item{To: true, Block: true}, from, api.ErrBlock},
		{out, api.Item{In: true, Block: true}, api.Subscribe, out, api.Item{In: true, Block: true}, api.ErrBlock},
		{in, out, api.Subscribed, from, to, api.OK},
		{api.Item{To: true, In: true}, api.Item{From: true, Out: true}, api.Subscribed, both, both, api.OK},
		{api.Item{Out: true, In: true}, api.Item{Out: true, In: true}, api.Subscribed, api.Item{From: true, Out: true}, api.Item{To: true, In: true}, api.OK},
		{is, is, api.Subscribed, is, is, api.ErrState},
		{out, in, api.Subscribed, out, in, api.ErrState},
		{from, to, api.Subscribed, from, to, api.ErrState},
		{blocks, is, api.Subscribed, blocks, is, api.ErrBlock},
		{is, blocks, api.Subscribed, is, blocks, api.ErrBlock},
		{api.Item{In: true, Block: true}, out, api.Subscribed, api.Item{In: true, Block: true}, out, api.ErrBlock},
		{in, api.Item{Out: true, Block: true}, api.Subscribed, in, api.Item{Out: true, Block: true}, api.ErrBlock},
		{to, from, api.Unsubscribe, is, is, api.OK},
		{out, in, api.Unsubscribe, is, is, api.OK},
		{both, both, api.Unsubscribe, from, to, api.OK},
		{api.Item{To: true, Block: true}, api.Item{From: true, Block: true}, api.Unsubscribe, blocks, blocks, api.OK},
		{from, to, api.Unsubscribe, from, to, api.ErrState},
		{in, out, api.Unsubscribe, in, out, api.ErrState},
		{blocks, blocks, api.Unsubscribe, blocks, blocks, api.ErrState},
		{from, to, api.Unsubscribed, is, is, api.OK},
		{in, out, api.Unsubscribed, is, is, api.OK},
		{both, both, api.Unsubscribed, to, from, api.OK},
		{in, api.Item{Out: true, Block: true}, api.Unsubscribed, is, blocks, api.OK},
		{to, from, api.Unsubscribed, to, from, api.ErrState},
		{out, in, api.Unsubscribed, out, in, api.ErrState},
		{is, is, api.Block, blocks, is, api.OK},
		{is, blocks, api.Block, blocks, blocks, api.OK},
		{both, both, api.Block, api.Item{To: true, From: true, Block: true}, both, api.OK},
		{blocks, is, api.Block, blocks, is, api.ErrState},
		{blocks, is, api.Unblock, is, is, api.OK},
		{blocks, blocks, api.Unblock, is, blocks, api.OK},
		{is, blocks, api.Unblock, is, blocks, api.ErrState},
		{is, is, api.Unblock, is, is, api.ErrState},
	} {
		if a, b, err := Act(c.a, c.b, c.kind); a != c.c || b != c.d || err != c.err {
			t.Errorf("P7.2: case %d: %v, %v, %d", i, a, b, err)
		}
	}
}

func TestOfPairsThatMayBeComePairsThatMayBe(t *testing.T) {
	seen := map[pair]bool{{}: true}
	for work := []pair{{}}; len(work) > 0; work = work[1:] {
		for kind := 1; kind <= 6; kind++ {
			for _, p := range []pair{work[0], swap(work[0])} {
				q, _ := act(p, kind)
				if !May(q.a, q.b) {
					t.Errorf("P7.3: Act of %v, %d: %v", p, kind, q)
				}
				if !seen[q] {
					seen[q] = true
					work = append(work, q)
				}
			}
		}
	}
	if len(seen) != len(pairs()) {
		t.Errorf("P7.3: %d pairs are come to, of %d", len(seen), len(pairs()))
	}
}

func TestNobodySeesUnaskedAndUnallowed(t *testing.T) {
	for _, p := range pairs() {
		for kind := 1; kind <= 6; kind++ {
			q, _ := act(p, kind)
			if q.a.To && !p.a.To {
				t.Errorf("P7.3: %v sees by its own %d", p, kind)
			}
			if q.b.To && !p.b.To && (kind != api.Subscribed || !p.b.Out || !p.a.In) {
				t.Errorf("P7.3: the other one of %v sees by %d", p, kind)
			}
			if q.b.Out && !p.b.Out || q.a.In && !p.a.In {
				t.Errorf("P7.3: the other one of %v asks by %d", p, kind)
			}
			if q.a.Out && !p.a.Out && kind != api.Subscribe {
				t.Errorf("P7.3: %v asks by %d", p, kind)
			}
			if q.b.Block != p.b.Block {
				t.Errorf("P7.3: the other one of %v blocks, or does not, by %d", p, kind)
			}
		}
	}
}

func TestWhatTheOneDoesTheOtherOneUndoes(t *testing.T) {
	for _, p := range pairs() {
		mine, err := act(p, api.Unsubscribe)
		theirs, e := act(swap(p), api.Unsubscribed)
		if mine != swap(theirs) || err != e {
			t.Errorf("P7.3: %v: by the one %v, %d; by the other one %v, %d", p, mine, err, theirs, e)
		}
		asked, err := act(p, api.Subscribe)
		if err != api.OK {
			continue
		}
		taken, e1 := act(asked, api.Unsubscribe)
		refused, e2 := act(swap(asked), api.Unsubscribed)
		if taken != p || swap(refused) != p || e1 != api.OK || e2 != api.OK {
			t.Errorf("P7.3: %v: taken back %v, refused %v", p, taken, refused)
		}
	}
}

func TestTheOneAsksAndTheOtherOneAllows(t *testing.T) {
	p, e1 := act(pair{}, api.Subscribe)
	if Sees(p.a, p.b) {
		t.Error("P7.3: seen ahead of Subscribed")
	}
	p, e2 := act(swap(p), api.Subscribed)
	if !Sees(p.b, p.a) || Sees(p.a, p.b) || e1 != api.OK || e2 != api.OK || Name(p.b) != "to" || Name(p.a) != "from" {
		t.Errorf("P7.2: behind Subscribed: %v, %d, %d", p, e1, e2)
	}
	p, e3 := act(p, api.Block)
	if Sees(p.b, p.a) || e3 != api.OK {
		t.Errorf("P7.2: behind Block: %v, %d", p, e3)
	}
	p, e4 := act(p, api.Unblock)
	if !Sees(p.b, p.a) || e4 != api.OK {
		t.Errorf("P7.2: behind Unblock: %v, %d", p, e4)
	}
}
