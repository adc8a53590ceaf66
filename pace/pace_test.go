package pace

import (
	"math"
	"math/rand"
	"testing"
	"time"

	"rollcall/api"
)

const (
	last = 1 << 40
	far  = math.MaxInt
)

// good: a config that may be.
var good = api.Config{Room: 4, Burst: 5, Rate: 2, Period: 10}

// wrongTicks: numbers that are no ticks.
var wrongTicks = []int{-1, -2, last + 1, last + 2, 1 << 41, 1 << 53, 1<<62 + 1, -last, far, math.MinInt, math.MinInt + 1}

// config: one of these.
func config(room, burst, rate, period int) api.Config {
	return api.Config{Room: room, Burst: burst, Rate: rate, Period: period}
}

// bucket: of these tokens, at that tick.
func bucket(tokens, at int) api.Bucket {
	return api.Bucket{Tokens: tokens, At: at}
}

// goodConfigs: such as may be, each field at both its ends.
func goodConfigs() []api.Config {
	l := []api.Config{good}
	for _, room := range []int{1, 16} {
		for _, burst := range []int{1, 2, 63, 64} {
			for _, rate := range []int{1, 3, 16} {
				for _, period := range []int{1, 1000} {
					l = append(l, config(room, burst, rate, period))
				}
			}
		}
	}
	return l
}

// badConfigs: such as may not be, each by one field, or by all.
func badConfigs() []api.Config {
	l := []api.Config{{}, config(-1, -1, -1, -1), config(17, 65, 17, 1001)}
	for _, wrong := range []int{0, -1, -4, math.MinInt, far, 1 << 32, 1<<32 + 4} {
		l = append(l, config(wrong, 5, 2, 10), config(4, wrong, 2, 10), config(4, 5, wrong, 10), config(4, 5, 2, wrong))
	}
	return append(l, config(17, 5, 2, 10), config(4, 65, 2, 10), config(4, 5, 17, 10), config(4, 5, 2, 1001), config(18, 5, 2, 10), config(4, 66, 2, 10), config(4, 5, 18, 10), config(4, 5, 2, 1002))
}

// badBuckets: such as may not be one of c.
func badBuckets(c api.Config) []api.Bucket {
	l := []api.Bucket{bucket(-1, 5), bucket(c.Burst+1, 5), bucket(c.Burst+2, 0), bucket(65, 5), bucket(1000, 5), bucket(far, 5), bucket(math.MinInt, 5), bucket(-1, -1), bucket(1<<32+1, 5)}
	for _, at := range wrongTicks {
		l = append(l, bucket(0, at), bucket(1, at), bucket(c.Burst, at))
	}
	return l
}

// full: New, that is to tell a full bucket.
func full(t *testing.T, c api.Config, now int) api.Bucket {
	t.Helper()
	b, err := New(c, now)
	if err != api.OK || b != bucket(c.Burst, now) {
		t.Fatalf("P16.1: New of %v at %d: %v, %d", c, now, b, err)
	}
	return b
}

// level: P16.2 word by word, tick by tick; ticks are to be few.
func level(c api.Config, b api.Bucket, now int) int {
	tokens := b.Tokens
	for range max(0, now-b.At) {
		tokens += c.Rate
		if tokens > c.Burst {
			tokens = c.Burst
		}
	}
	return tokens
}

// nothing: that where what may not be is so, no token is told of.
func nothing(t *testing.T, c api.Config, b api.Bucket, now int) {
	t.Helper()
	if got := Level(c, b, now); got != 0 {
		t.Errorf("P16.2: Level of %v, %v at %d: %d, not 0", c, b, now, got)
	}
	if got, ok := Take(c, b, now); got != b || ok {
		t.Errorf("P16.3: Take of %v, %v at %d: %v, %v, not itself and false", c, b, now, got, ok)
	}
	if got := Wait(c, b, now); got != 0 {
		t.Errorf("P16.4: Wait of %v, %v at %d: %d, not 0", c, b, now, got)
	}
}

// has: that there are so many tokens, and what Take and Wait make of it.
func has(t *testing.T, c api.Config, b api.Bucket, now, want int) {
	t.Helper()
	if got := Level(c, b, now); got != want {
		t.Errorf("P16.2: Level of %v, %v at %d: %d, not %d", c, b, now, got, want)
	}
	left, wait := bucket(want, max(now, b.At)), 1
	if want > 0 {
		left.Tokens, wait = want-1, 0
	}
	if got, ok := Take(c, b, now); got != left || ok != (want > 0) {
		t.Errorf("P16.3: Take of %v, %v at %d: %v, %v, not %v", c, b, now, got, ok, left)
	}
	if got := Wait(c, b, now); got != wait {
		t.Errorf("P16.4: Wait of %v, %v at %d: %d, not %d", c, b, now, got, wait)
	}
}

func TestMay(t *testing.T) {
	for i, c := range goodConfigs() {
		if !May(c) {
			t.Errorf("P16.1: case %d: %v may not be", i, c)
		}
	}
	for i, c := range badConfigs() {
		if May(c) {
			t.Errorf("P16.1: case %d: %v may be", i, c)
		}
	}
}

// TestMayOfEachField: of all numbers about its ends.
func TestMayOfEachField(t *testing.T) {
	for n := -70; n < 1100; n++ {
		for i, x := range []struct {
			c   api.Config
			max int
		}{
			{config(n, 5, 2, 10), 16}, {config(4, n, 2, 10), 64}, {config(4, 5, n, 10), 16}, {config(4, 5, 2, n), 1000},
			{config(n, 64, 16, 1000), 16}, {config(1, n, 1, 1), 64}, {config(16, 1, n, 1000), 16}, {config(1, 1, 1, n), 1000},
		} {
			if got := May(x.c); got != (n >= 1 && n <= x.max) {
				t.Errorf("P16.1: case %d: %v: %v", i, x.c, got)
			}
		}
	}
}

func TestNew(t *testing.T) {
	for _, c := range goodConfigs() {
		for _, now := range []int{0, 1, 5, 1 << 31, 1 << 32, last - 1, last} {
			if got, err := New(c, now); got != bucket(c.Burst, now) || err != api.OK {
				t.Errorf("P16.1: New of %v at %d: %v, %d", c, now, got, err)
			}
		}
		for _, now := range wrongTicks {
			if got, err := New(c, now); got != (api.Bucket{}) || err != api.ErrArg {
				t.Errorf("P16.1: New of %v at %d: %v, %d", c, now, got, err)
			}
		}
	}
	for _, c := range badConfigs() {
		for _, now := range append(wrongTicks, 0, 5, last) {
			if got, err := New(c, now); got != (api.Bucket{}) || err != api.ErrArg {
				t.Errorf("P16.1: New of %v at %d: %v, %d", c, now, got, err)
			}
		}
	}
}

// TestExample: as the chapter tells.
func TestExample(t *testing.T) {
	c := config(4, 2, 1, 10)
	b := full(t, c, 5)
	for i, x := range []struct {
		now  int
		want api.Bucket
		ok   bool
	}{
		{5, bucket(1, 5), true}, {5, bucket(0, 5), true}, {5, bucket(0, 5), false}, {5, bucket(0, 5), false},
		{6, bucket(0, 6), true}, {6, bucket(0, 6), false},
	} {
		got, ok := Take(c, b, x.now)
		if got != x.want || ok != x.ok {
			t.Errorf("P16.3: case %d: %v, %v", i, got, ok)
		}
		b = got
	}
}

func TestLevel(t *testing.T) {
	for i, x := range []struct {
		c       api.Config
		b       api.Bucket
		now     int
		want    int
		because string
	}{
		{good, bucket(0, 7), 7, 0, "no tick has gone"},
		{good, bucket(3, 7), 7, 3, "no tick has gone"},
		{good, bucket(5, 7), 7, 5, "no tick has gone"},
		{good, bucket(0, 7), 6, 0, "now is before At"},
		{good, bucket(3, 7), 6, 3, "now is before At"},
		{good, bucket(3, 7), 0, 3, "now is far before At"},
		{good, bucket(3, last), 0, 3, "now is as far before At as may be"},
		{good, bucket(0, 7), 8, 2, "one tick has gone"},
		{good, bucket(1, 7), 8, 3, "one tick has gone"},
		{good, bucket(0, 7), 9, 4, "two ticks have gone"},
		{good, bucket(0, 7), 10, 5, "Burst is less than what has come"},
		{good, bucket(1, 7), 9, 5, "as much has come as Burst"},
		{good, bucket(2, 7), 9, 5, "one more has come than Burst"},
		{good, bucket(5, 7), 8, 5, "there is Burst already"},
		{good, bucket(0, 0), last, 5, "At is far behind"},
		{good, bucket(5, 0), last, 5, "At is far behind"},
		{good, bucket(0, last-1), last, 2, "the last tick"},
		{good, bucket(0, last), last, 0, "the last tick"},
		{config(1, 64, 1, 1), bucket(0, 0), 63, 63, "one token comes a tick"},
		{config(1, 64, 1, 1), bucket(0, 0), 64, 64, "one token comes a tick"},
		{config(1, 64, 1, 1), bucket(0, 0), 65, 64, "Burst is as much as there is"},
		{config(1, 64, 16, 1), bucket(0, 0), last, 64, "as many have come as can"},
		{config(1, 1, 16, 1), bucket(0, 0), 1, 1, "Burst is below Rate"},
		{config(1, 1, 16, 1), bucket(0, 0), last, 1, "Burst is below Rate"},
		{config(1, 3, 16, 1), bucket(2, 9), 10, 3, "Burst is below Rate"},
		{config(1, 3, 16, 1), bucket(2, 9), 9, 2, "Burst is below Rate, but no tick has gone"},
		{config(1, 1, 1, 1), bucket(0, 0), 1, 1, "one token comes"},
		{config(1, 1, 1, 1), bucket(1, 0), 1, 1, "one token is as much as there is"},
	} {
		if got := Level(x.c, x.b, x.now); got != x.want {
			t.Errorf("P16.2: case %d: %d, not %d, though %s", i, got, x.want, x.because)
		}
		has(t, x.c, x.b, x.now, x.want)
	}
}

// TestOfAllBuckets: tokens of all numbers, at ticks about At, against the oracle.
func TestOfAllBuckets(t *testing.T) {
	for _, c := range goodConfigs() {
		for tokens := 0; tokens <= c.Burst; tokens++ {
			for _, at := range []int{0, 40, 1 << 32, last - 8, last} {
				for now := max(0, at-3); now <= min(at+8, last); now++ {
					b := bucket(tokens, at)
					has(t, c, b, now, level(c, b, now))
				}
			}
			has(t, c, bucket(tokens, 0), last, c.Burst)
			has(t, c, bucket(tokens, last), 0, tokens)
			has(t, c, bucket(tokens, 3), 1<<33, c.Burst)
		}
	}
}

// TestTake: the bucket is at the later one of now and At, whether there is a token or not.
func TestTake(t *testing.T) {
	for i, x := range []struct {
		b       api.Bucket
		now     int
		want    api.Bucket
		ok      bool
		because string
	}{
		{bucket(5, 7), 7, bucket(4, 7), true, "there is a token"},
		{bucket(1, 7), 7, bucket(0, 7), true, "there is one token alone"},
		{bucket(0, 7), 7, bucket(0, 7), false, "there is none"},
		{bucket(0, 7), 8, bucket(1, 8), true, "two have come"},
		{bucket(0, 7), 9, bucket(3, 9), true, "four have come"},
		{bucket(4, 7), 9, bucket(4, 9), true, "no more than Burst have come"},
		{bucket(0, 7), last, bucket(4, last), true, "no more than Burst have come"},
		{bucket(3, 7), 6, bucket(2, 7), true, "now is before At"},
		{bucket(3, 7), 0, bucket(2, 7), true, "now is before At"},
		{bucket(0, 7), 6, bucket(0, 7), false, "now is before At, and there is none"},
		{bucket(0, last), 0, bucket(0, last), false, "now is far before At, and there is none"},
		{bucket(0, 0), 0, bucket(0, 0), false, "there is none at the first tick"},
		{bucket(0, last), last, bucket(0, last), false, "there is none at the last tick"},
	} {
		if got, ok := Take(good, x.b, x.now); got != x.want || ok != x.ok {
			t.Errorf("P16.3: case %d: %v, %v, not %v, though %s", i, got, ok, x.want, x.because)
		}
	}
}

func TestWait(t *testing.T) {
	for i, x := range []struct {
		b    api.Bucket
		now  int
		want int
	}{
		{bucket(5, 7), 7, 0}, {bucket(1, 7), 7, 0}, {bucket(0, 7), 7, 1}, {bucket(0, 7), 8, 0}, {bucket(0, 7), last, 0},
		{bucket(1, 7), 6, 0}, {bucket(1, 7), 0, 0}, {bucket(0, last), last, 1}, {bucket(0, 0), 0, 1},
		// 1 also where more ticks than one are to go, as the chapter tells.
		{bucket(0, 7), 6, 1}, {bucket(0, 7), 0, 1}, {bucket(0, last), 0, 1},
		// What may not be waits for nothing.
		{bucket(0, 7), -1, 0}, {bucket(0, 7), last + 1, 0}, {bucket(0, -1), 7, 0}, {bucket(0, last+1), 7, 0}, {bucket(-1, 7), 7, 0}, {bucket(6, 7), 7, 0},
	} {
		if got := Wait(good, x.b, x.now); got != x.want {
			t.Errorf("P16.4: case %d: %d, not %d", i, got, x.want)
		}
	}
}

// TestWhatMayNotBe: a config, a bucket, a tick, each by itself.
func TestWhatMayNotBe(t *testing.T) {
	for _, c := range badConfigs() {
		for _, b := range []api.Bucket{{}, bucket(0, 5), bucket(1, 5), bucket(5, 5), bucket(1, last)} {
			for _, now := range []int{0, 5, 6, last, -1} {
				nothing(t, c, b, now)
			}
		}
	}
	for _, c := range goodConfigs() {
		for _, b := range badBuckets(c) {
			for _, now := range []int{0, 5, 6, last, -1, last + 1} {
				nothing(t, c, b, now)
			}
		}
		for _, now := range wrongTicks {
			for _, b := range []api.Bucket{{}, bucket(1, 0), bucket(0, 5), bucket(c.Burst, 5), bucket(1, last), bucket(0, last)} {
				nothing(t, c, b, now)
			}
		}
	}
	// A bucket that may be one of another config.
	nothing(t, config(4, 5, 2, 10), bucket(6, 5), 5)
	has(t, config(4, 6, 2, 10), bucket(6, 5), 5, 6)
}

// TestRoomAndPeriodDoNothing: but for that they are to be such as may be.
func TestRoomAndPeriodDoNothing(t *testing.T) {
	for room := 1; room <= 16; room++ {
		for _, period := range []int{1, 2, 500, 1000} {
			c := config(room, 3, 2, period)
			has(t, c, bucket(0, 7), 7, 0)
			has(t, c, bucket(0, 7), 8, 2)
			has(t, c, bucket(2, 7), 9, 3)
		}
	}
}

// drain: how many are taken at now, and the bucket then.
func drain(t *testing.T, c api.Config, b api.Bucket, now int) (int, api.Bucket) {
	t.Helper()
	for count := 0; ; count++ {
		next, ok := Take(c, b, now)
		if !ok {
			return count, next
		}
		if next.Tokens < 0 || next.Tokens >= c.Burst || next.At < b.At || count > c.Burst {
			t.Fatalf("P16.3: of %v, %v at %d: %v", c, b, now, next)
		}
		b = next
	}
}

func TestManyTakesAtOneTick(t *testing.T) {
	for _, c := range goodConfigs() {
		for _, now := range []int{0, 9, last} {
			b := full(t, c, now)
			count, b := drain(t, c, b, now)
			if count != c.Burst || b != bucket(0, now) {
				t.Errorf("P16.5: %d of %v at one tick, and then %v", count, c, b)
			}
			// None more, however often it is asked, and at ticks before that one.
			for _, before := range []int{now, now, now / 2, 0} {
				if count, left := drain(t, c, b, before); count != 0 || left != b {
					t.Errorf("P16.5: %d more of %v at %d, and then %v", count, c, before, left)
				}
			}
		}
	}
}

// TestTakesAtTicksOneBehindTheOther: of each tick as many as it brings.
func TestTakesAtTicksOneBehindTheOther(t *testing.T) {
	for _, c := range goodConfigs() {
		b := full(t, c, 100)
		for now := 100; now < 140; now++ {
			want := min(c.Rate, c.Burst)
			if now == 100 {
				want = c.Burst
			}
			count, left := drain(t, c, b, now)
			if count != want || left != bucket(0, now) {
				t.Errorf("P16.5: %d of %v at %d, not %d; then %v", count, c, now, want, left)
			}
			// A tick that goes back brings nothing, and does not bring a tick twice.
			if count, back := drain(t, c, left, now-1); count != 0 || back != left {
				t.Errorf("P16.5: %d of %v at the tick ahead of %d; then %v", count, c, now, back)
			}
			b = left
		}
	}
}

// TestTicksThatGoBack: what is taken hangs on the latest tick so far.
func TestTicksThatGoBack(t *testing.T) {
	c := config(4, 6, 2, 10)
	b := full(t, c, 10)
	for i, x := range []struct{ now, count, at int }{
		{10, 6, 10}, {9, 0, 10}, {11, 2, 11}, {10, 0, 11}, {11, 0, 11}, {13, 4, 13}, {12, 0, 13}, {0, 0, 13}, {14, 2, 14}, {20, 6, 20}, {19, 0, 20}, {21, 2, 21},
	} {
		var count int
		count, b = drain(t, c, b, x.now)
		if count != x.count || b != bucket(0, x.at) {
			t.Errorf("P16.5: case %d: %d at %d, and then %v", i, count, x.now, b)
		}
	}
}

// TestNoMoreThanBurstAndRate: in any ticks, one behind the other, whatever is taken and when.
func TestNoMoreThanBurstAndRate(t *testing.T) {
	r := rand.New(rand.NewSource(1))
	configs := goodConfigs()
	const ticks = 60
	for round := range 300 {
		c := configs[round%len(configs)]
		start := []int{0, 1000, last - ticks}[r.Intn(3)]
		b := full(t, c, start)
		var taken [ticks]int
		for now := range ticks {
			for range r.Intn(2 * (c.Rate + 1)) {
				back := r.Intn(3)
				if r.Intn(5) > 0 {
					back = 0
				}
				at := max(start+now-back, 0)
				has(t, c, b, at, level(c, b, at))
				next, ok := Take(c, b, at)
				if ok {
					taken[next.At-start]++
				}
				b = next
			}
		}
		// Tighter than Rate for each tick, as the first one of several brings what Burst holds already.
		for from := range ticks {
			sum := 0
			for to := from; to < ticks; to++ {
				sum += taken[to]
				if sum > c.Burst+c.Rate*(to-from) {
					t.Fatalf("P16.5: %d of %v in %d ticks", sum, c, to-from+1)
				}
			}
		}
	}
}

// TestTheSameAtOnceAndTickByTick: what has come by ticks, one behind the other, is what comes at once.
func TestTheSameAtOnceAndTickByTick(t *testing.T) {
	for _, c := range goodConfigs() {
		for tokens := 0; tokens <= c.Burst; tokens += 1 + c.Burst/7 {
			step := bucket(tokens, 50)
			for now := 51; now < 90; now++ {
				step = bucket(Level(c, step, now), now)
				has(t, c, bucket(tokens, 50), now, step.Tokens)
			}
		}
	}
}

// TestAnswersHangOnArgumentsAlone: in whatever order they are asked.
func TestAnswersHangOnArgumentsAlone(t *testing.T) {
	for range 3 {
		for tokens := range 6 {
			b := bucket(tokens, 7)
			Take(good, bucket(5, 3), 9)
			has(t, good, b, 7, tokens)
			nothing(t, good, bucket(6, 7), 7)
			has(t, good, b, 8, min(tokens+2, 5))
			if b != bucket(tokens, 7) {
				t.Errorf("R5: %v was changed", b)
			}
		}
	}
}

func TestMuchIsDoneSoon(t *testing.T) {
	start := time.Now()
	c := config(16, 64, 16, 1000)
	b := full(t, c, 0)
	taken := 0
	for n := range 2000000 {
		next, ok := Take(c, b, n)
		if ok {
			taken++
		}
		b = next
		Level(c, bucket(0, 0), last)
		Wait(c, bucket(0, n), n)
	}
	if taken != 2000000 {
		t.Errorf("P16.3: %d taken", taken)
	}
	if took := time.Since(start); took > 20*time.Second {
		t.Errorf("R1: many takes took %v", took)
	}
}
