package bucket_test

import (
	"math"
	"testing"

	"barbican/api"
	"barbican/bucket"
	"barbican/dice"
)

const (
	mostTokens = 1 << 30
	mostTime   = 1 << 40
)

// oracle is a bucket that counts all fillings from its beginning on, and looks for its waits.
type oracle struct {
	most, fill, every, start int
	// left are the tokens that were there at the time told.
	left, told int
}

// at is how many tokens there are at a time from told on, if nobody takes any.
func (o *oracle) at(now int) int {
	fillings := (now-o.start)/o.every - (o.told-o.start)/o.every
	if fillings >= o.most {
		// Each filling brings one at least.
		return o.most
	}
	return min(o.most, o.left+fillings*o.fill)
}

func (o *oracle) pass(now int) api.Errno {
	if now < o.told || now > mostTime {
		return 20
	}
	o.left, o.told = o.at(now), now
	return 0
}

func (o *oracle) take(now int, n int) (bool, api.Errno) {
	if errno := o.pass(now); errno != 0 {
		return false, errno
	}
	if n < 1 || n > o.left {
		return false, 0
	}
	o.left -= n
	return true, 0
}

func (o *oracle) tokens(now int) (int, api.Errno) {
	if errno := o.pass(now); errno != 0 {
		return 0, errno
	}
	return o.left, 0
}

func (o *oracle) wait(now int, n int) (int, api.Errno) {
	if errno := o.pass(now); errno != 0 {
		return 0, errno
	}
	if n > o.most {
		return -1, 0
	}
	// The first tick at which there are enough lies above low and at most at high.
	low, high := -1, 1<<61
	for low+1 < high {
		if middle := (low + high) / 2; o.at(now+middle) >= n {
			high = middle
		} else {
			low = middle
		}
	}
	return high, 0
}

// pair is a bucket and the oracle that is told the same.
type pair struct {
	t *testing.T
	b *bucket.Bucket
	o *oracle
}

func newPair(t *testing.T, most int, fill int, every int, now int) *pair {
	t.Helper()
	b, errno := bucket.New(most, fill, every, now)
	if b == nil || errno != api.OK {
		t.Fatalf("New(%d, %d, %d, %d) = %v, %d, want a bucket", most, fill, every, now, b, errno)
	}
	return &pair{t: t, b: b, o: &oracle{most: most, fill: fill, every: every, start: now, left: most, told: now}}
}

func (p *pair) take(now int, n int) bool {
	p.t.Helper()
	told := p.o.told
	got, errno := p.b.Take(now, n)
	want, wanted := p.o.take(now, n)
	if got != want || errno != wanted {
		p.t.Fatalf("Take(%d, %d) behind %d = %v, %d, want %v, %d", now, n, told, got, errno, want, wanted)
	}
	return got
}

func (p *pair) tokens(now int) int {
	p.t.Helper()
	told := p.o.told
	got, errno := p.b.Tokens(now)
	want, wanted := p.o.tokens(now)
	if got != want || errno != wanted {
		p.t.Fatalf("Tokens(%d) behind %d = %d, %d, want %d, %d", now, told, got, errno, want, wanted)
	}
	return got
}

func (p *pair) wait(now int, n int) int {
	p.t.Helper()
	told := p.o.told
	got, errno := p.b.Wait(now, n)
	want, wanted := p.o.wait(now, n)
	if got != want || errno != wanted {
		p.t.Fatalf("Wait(%d, %d) behind %d = %d, %d, want %d, %d", now, n, told, got, errno, want, wanted)
	}
	return got
}

// drain takes all tokens there are.
func (p *pair) drain(now int) {
	p.t.Helper()
	if left := p.tokens(now); left > 0 && !p.take(now, left) {
		p.t.Fatalf("Take(%d, %d) of all tokens is refused", now, left)
	}
}

// same fails if the bucket can be told from the oracle at the time of the last call.
func (p *pair) same(what string) {
	p.t.Helper()
	now := p.o.told
	if got, errno := p.b.Tokens(now); got != p.o.left || errno != api.OK {
		p.t.Fatalf("%s: Tokens(%d) = %d, %d, want %d, 0", what, now, got, errno, p.o.left)
	}
	for _, n := range []int{1, p.o.left + 1, p.o.most} {
		want, _ := p.o.wait(now, n)
		if got, errno := p.b.Wait(now, n); got != want || errno != api.OK {
			p.t.Fatalf("%s: Wait(%d, %d) = %d, %d, want %d, 0", what, now, n, got, errno, want)
		}
	}
	if got, errno := p.b.Tokens(now - 1); got != 0 || errno != api.ErrTime {
		p.t.Fatalf("%s: Tokens(%d) = %d, %d, want 0 and ErrTime", what, now-1, got, errno)
	}
}

// refused makes each call at a time that is refused, and fails if one isn't, or leaves a trace.
func (p *pair) refused(now int) {
	p.t.Helper()
	for _, n := range []int{math.MinInt, -1, 0, 1, p.o.left, p.o.left + 1, p.o.most, p.o.most + 1, math.MaxInt} {
		if got, errno := p.b.Take(now, n); got || errno != api.ErrTime {
			p.t.Fatalf("Take(%d, %d) behind %d = %v, %d, want false and ErrTime", now, n, p.o.told, got, errno)
		}
		if got, errno := p.b.Wait(now, n); got != 0 || errno != api.ErrTime {
			p.t.Fatalf("Wait(%d, %d) behind %d = %d, %d, want 0 and ErrTime", now, n, p.o.told, got, errno)
		}
		if got, errno := p.b.Tokens(now); got != 0 || errno != api.ErrTime {
			p.t.Fatalf("Tokens(%d) behind %d = %d, %d, want 0 and ErrTime", now, p.o.told, got, errno)
		}
	}
	p.same("behind a time that is refused")
}

// sizes are buckets of all kinds: cap, fill and ticks between two fillings.
var sizes = [][3]int{
	{1, 1, 1}, {1, 1, 7}, {1, 5, 3}, {4, 2, 10}, {5, 2, 3}, {10, 3, 4}, {10, 10, 10}, {10, 11, 2}, {100, 1, 1}, {7, 100, 5},
	{mostTokens, 1, 1}, {1, mostTokens, 1}, {1, 1, mostTokens},
	{mostTokens, mostTokens, 1}, {mostTokens, mostTokens - 1, 1}, {mostTokens, 1, mostTokens}, {1, mostTokens, mostTokens},
	{mostTokens, mostTokens, mostTokens}, {mostTokens, 3, mostTokens - 1}, {mostTokens - 1, 1 << 25, 1 << 10},
}

// starts are times at which a bucket begins.
var starts = []int{0, 1, 9, 10, 1000003, 1 << 39, mostTime - 100, mostTime - 1, mostTime}

// P3.1: New.

func TestNewBounds(t *testing.T) {
	numbers := []struct {
		n     int
		right bool
	}{
		{1, true}, {2, true}, {mostTokens - 1, true}, {mostTokens, true},
		{0, false}, {-1, false}, {mostTokens + 1, false}, {math.MinInt, false}, {math.MaxInt, false},
	}
	for _, most := range numbers {
		for _, fill := range numbers {
			for _, every := range numbers {
				want := api.OK
				if !most.right || !fill.right || !every.right {
					want = api.ErrBucket
				}
				b, errno := bucket.New(most.n, fill.n, every.n, 0)
				if errno != want || (b != nil) != (want == api.OK) {
					t.Errorf("New(%d, %d, %d, 0) = %v, %d, want %d", most.n, fill.n, every.n, b, errno, want)
				}
			}
		}
	}
}

func TestNewTimes(t *testing.T) {
	times := []struct {
		now  int
		want api.Errno
	}{
		{0, api.OK}, {1, api.OK}, {mostTime - 1, api.OK}, {mostTime, api.OK},
		{-1, api.ErrTime}, {mostTime + 1, api.ErrTime}, {math.MinInt, api.ErrTime}, {math.MaxInt, api.ErrTime},
	}
	for _, c := range times {
		b, errno := bucket.New(4, 2, 10, c.now)
		if errno != c.want || (b != nil) != (c.want == api.OK) {
			t.Errorf("New(4, 2, 10, %d) = %v, %d, want %d", c.now, b, errno, c.want)
		}
	}
}

func TestNewTellsTheBucketFirst(t *testing.T) {
	for _, now := range []int{-1, mostTime + 1, math.MinInt, math.MaxInt} {
		for _, wrong := range [][3]int{{0, 1, 1}, {1, 0, 1}, {1, 1, 0}, {mostTokens + 1, 1, 1}, {1, mostTokens + 1, 1}, {1, 1, mostTokens + 1}} {
			if b, errno := bucket.New(wrong[0], wrong[1], wrong[2], now); b != nil || errno != api.ErrBucket {
				t.Errorf("New of %v at %d = %v, %d, want nil and ErrBucket", wrong, now, b, errno)
			}
		}
	}
}

func TestNewIsFull(t *testing.T) {
	for _, size := range sizes {
		for _, start := range starts {
			p := newPair(t, size[0], size[1], size[2], start)
			p.same("a new bucket")
			if got := p.tokens(start); got != size[0] {
				t.Errorf("New of %v at %d has %d tokens", size, start, got)
			}
			if p.take(start, size[0]+1) || !p.take(start, size[0]) || p.take(start, 1) {
				t.Errorf("New of %v at %d doesn't give just what it has", size, start)
			}
			p.same("a bucket that was emptied at once")
		}
	}
}

func TestBucketsAreApart(t *testing.T) {
	p, q := newPair(t, 4, 2, 10, 0), newPair(t, 4, 2, 10, 0)
	p.drain(25)
	q.same("a bucket beside another one")
	q.take(3, 1)
	p.same("the other one")
	p.tokens(40)
	q.tokens(10)
}

// P3.2: times.

func TestTimesOfCalls(t *testing.T) {
	for _, start := range starts {
		p := newPair(t, 4, 2, 10, start)
		for _, now := range []int{start - 1, -1, math.MinInt, mostTime + 1, math.MaxInt} {
			p.refused(now)
		}
		p.drain(start)
		for _, now := range []int{start - 1, -1, math.MinInt, mostTime + 1, math.MaxInt} {
			p.refused(now)
		}
		p.tokens(mostTime)
		for _, now := range []int{mostTime - 1, mostTime + 1, math.MinInt, math.MaxInt} {
			p.refused(now)
		}
		p.same("at the end of time")
	}
}

func TestEachCallTellsTheTime(t *testing.T) {
	// Also a call that takes nothing, and one that changes nothing, binds those behind it.
	calls := map[string]func(p *pair, now int){
		"a take":                  func(p *pair, now int) { p.take(now, 1) },
		"a take of too many":      func(p *pair, now int) { p.take(now, 5) },
		"a take of none":          func(p *pair, now int) { p.take(now, 0) },
		"a take of less":          func(p *pair, now int) { p.take(now, -1) },
		"a question":              func(p *pair, now int) { p.tokens(now) },
		"a wait":                  func(p *pair, now int) { p.wait(now, 4) },
		"a wait for too many":     func(p *pair, now int) { p.wait(now, 5) },
		"a wait for what is here": func(p *pair, now int) { p.wait(now, 0) },
	}
	for what, call := range calls {
		for _, now := range []int{1, 9, 10, 11, 19, 20, 35} {
			p := newPair(t, 4, 2, 10, 0)
			p.take(0, 3)
			call(p, now)
			p.same("behind " + what)
			p.refused(now - 1)
			call(p, now)
			p.same("again, behind " + what)
			p.tokens(now + 1)
		}
	}
}

func TestRefusedTimeBringsNoFilling(t *testing.T) {
	p := newPair(t, 4, 2, 10, 5)
	p.drain(5)
	p.refused(mostTime + 1)
	p.refused(4)
	if got := p.tokens(14); got != 0 {
		t.Errorf("Tokens(14) = %d, want 0", got)
	}
	p.refused(mostTime + 1)
	if got := p.tokens(15); got != 2 {
		t.Errorf("Tokens(15) = %d, want 2", got)
	}
}

// P3.2: fillings.

func TestFillingsTickByTick(t *testing.T) {
	for _, size := range sizes[:10] {
		for _, start := range []int{0, 3, 1000003, mostTime - 60} {
			p := newPair(t, size[0], size[1], size[2], start)
			p.drain(start)
			want, since := 0, 0
			for now := start + 1; now <= start+60; now++ {
				if since++; since == size[2] {
					want, since = min(size[0], want+size[1]), 0
				}
				if got := p.tokens(now); got != want {
					t.Fatalf("%v from %d: Tokens(%d) = %d, want %d", size, start, now, got, want)
				}
			}
		}
	}
}

func TestFillingAtItsTick(t *testing.T) {
	// Each time is the first that is told since the bucket was emptied.
	for _, size := range sizes {
		for _, start := range starts {
			for fillings := range 6 {
				filling := start + fillings*size[2]
				for _, now := range []int{filling - 1, filling, filling + 1} {
					if now < start || now > mostTime {
						continue
					}
					p := newPair(t, size[0], size[1], size[2], start)
					p.drain(start)
					want := min(size[0], (now-start)/size[2]*size[1])
					if got := p.tokens(now); got != want {
						t.Fatalf("%v from %d: Tokens(%d) = %d, want %d", size, start, now, got, want)
					}
					p.same("about a filling")
				}
			}
		}
	}
}

func TestEachCallReckonsFirst(t *testing.T) {
	for _, now := range []int{9, 10, 11, 19, 20, 21, 500} {
		tokens := min(4, now/10*2)
		for n := -1; n <= 6; n++ {
			p := newPair(t, 4, 2, 10, 0)
			p.drain(0)
			if got := p.take(now, n); got != (n >= 1 && n <= tokens) {
				t.Errorf("Take(%d, %d) = %v of %d tokens", now, n, got, tokens)
			}
			p.same("behind a take")
			p = newPair(t, 4, 2, 10, 0)
			p.drain(0)
			if got := p.wait(now, n); (got == 0) != (n <= tokens) {
				t.Errorf("Wait(%d, %d) = %d of %d tokens", now, n, got, tokens)
			}
			p.same("behind a wait")
		}
	}
}

func TestManyFillingsAtOnce(t *testing.T) {
	cases := []struct {
		size      [3]int
		now, want int
	}{
		{[3]int{100, 3, 10}, 99, 27}, {[3]int{100, 3, 10}, 100, 30}, {[3]int{100, 3, 10}, 101, 30},
		{[3]int{100, 3, 10}, 330, 99}, {[3]int{100, 3, 10}, 339, 99}, {[3]int{100, 3, 10}, 340, 100}, {[3]int{100, 3, 10}, mostTime, 100},
		{[3]int{mostTokens, 1, 1}, mostTokens - 1, mostTokens - 1}, {[3]int{mostTokens, 1, 1}, mostTokens, mostTokens},
		{[3]int{mostTokens, 1, 1}, mostTokens + 1, mostTokens}, {[3]int{mostTokens, 1, 1}, mostTime, mostTokens},
		{[3]int{mostTokens, 1, mostTokens}, mostTime - 1, 1023}, {[3]int{mostTokens, 1, mostTokens}, mostTime, 1024},
		{[3]int{mostTokens, mostTokens, mostTokens}, mostTokens - 1, 0}, {[3]int{mostTokens, mostTokens, mostTokens}, mostTokens, mostTokens},
		// All fillings together would bring 2^70 tokens, and some more.
		{[3]int{mostTokens, mostTokens, 1}, mostTime, mostTokens}, {[3]int{mostTokens, mostTokens - 1, 1}, mostTime, mostTokens},
		{[3]int{mostTokens, mostTokens, 2}, mostTime, mostTokens}, {[3]int{1, mostTokens, 1}, 1 << 34, 1},
		{[3]int{mostTokens, mostTokens, 1}, 1 << 33, mostTokens}, {[3]int{mostTokens, mostTokens - 1, 1}, 1<<33 + 1, mostTokens},
	}
	for _, c := range cases {
		p := newPair(t, c.size[0], c.size[1], c.size[2], 0)
		p.drain(0)
		if got := p.tokens(c.now); got != c.want {
			t.Errorf("%v: Tokens(%d) = %d, want %d", c.size, c.now, got, c.want)
		}
		p.same("behind many fillings")
	}
}

func TestFillingsOfAFullBucket(t *testing.T) {
	// The filling at 20 finds a full bucket: it brings nothing, and the next one is at 30 all the same.
	for _, quiet := range []int{20, 21, 25, 29} {
		p := newPair(t, 4, 2, 10, 0)
		if got := p.tokens(quiet); got != 4 {
			t.Fatalf("Tokens(%d) = %d, want 4", quiet, got)
		}
		if !p.take(quiet, 4) {
			t.Fatalf("Take(%d, 4) is false", quiet)
		}
		if got := p.wait(quiet, 1); got != 30-quiet {
			t.Errorf("Wait(%d, 1) = %d, want %d", quiet, got, 30-quiet)
		}
		if p.tokens(29) != 0 || p.tokens(30) != 2 || p.tokens(39) != 2 || p.tokens(40) != 4 {
			t.Errorf("fillings behind a full bucket came at other times")
		}
	}
}

func TestFillingThatBringsTooMuch(t *testing.T) {
	p := newPair(t, 5, 3, 10, 0)
	p.take(0, 1)
	if got := p.tokens(10); got != 5 {
		t.Errorf("Tokens(10) = %d, want 5", got)
	}
	// What did not fit is not there later.
	p.drain(10)
	if got := p.tokens(19); got != 0 {
		t.Errorf("Tokens(19) = %d, want 0", got)
	}
	if got := p.tokens(20); got != 3 {
		t.Errorf("Tokens(20) = %d, want 3", got)
	}
}

func TestOneTimeAndManyTimes(t *testing.T) {
	for _, size := range sizes {
		for _, step := range []int{1, 2, 3, 9, 10, 11, 1 << 29, 1<<30 + 1, 1 << 36} {
			many := newPair(t, size[0], size[1], size[2], 7)
			many.drain(7)
			now := 7
			for i := 0; i < 50 && now+step <= mostTime; i++ {
				now += step
				many.tokens(now)
			}
			once := newPair(t, size[0], size[1], size[2], 7)
			once.drain(7)
			if got, want := many.tokens(now), once.tokens(now); got != want {
				t.Fatalf("%v in steps of %d: %d tokens at %d, in one %d", size, step, got, now, want)
			}
			many.same("in many steps")
			once.same("in one step")
		}
	}
}

// P3.3: Take, Tokens, Wait.

func TestTakeCounts(t *testing.T) {
	for most := 1; most <= 6; most++ {
		for left := 0; left <= most; left++ {
			for _, n := range []int{math.MinInt, -2, -1, 0, 1, 2, left - 1, left, left + 1, most, most + 1, mostTokens, mostTokens + 1, math.MaxInt} {
				p := newPair(t, most, 1, 100, 0)
				if left < most {
					p.take(0, most-left)
				}
				want := n >= 1 && n <= left
				rest := left
				if want {
					rest -= n
				}
				if got := p.take(4, n); got != want {
					t.Errorf("Take(4, %d) of %d = %v", n, left, got)
				}
				if got := p.tokens(4); got != rest {
					t.Errorf("behind Take(4, %d) of %d there are %d", n, left, got)
				}
				p.same("behind a take")
			}
		}
	}
}

func TestTakeOneByOne(t *testing.T) {
	p := newPair(t, 20, 1, 1000, 0)
	for i := range 20 {
		if !p.take(i, 1) {
			t.Fatalf("token %d of 20 is refused", i+1)
		}
	}
	for i := range 5 {
		if p.take(20+i, 1) {
			t.Fatalf("there is a token behind all 20")
		}
	}
	if p.take(999, 1) || !p.take(1000, 1) || p.take(1000, 1) {
		t.Error("not just one token at the filling")
	}
}

func TestQuestionsChangeNothing(t *testing.T) {
	for _, size := range sizes {
		for _, now := range []int{0, 1, 9, 10, 11, 1 << 30, mostTime} {
			asked := newPair(t, size[0], size[1], size[2], 0)
			quiet := newPair(t, size[0], size[1], size[2], 0)
			asked.drain(0)
			quiet.drain(0)
			for range 5 {
				tokens := asked.tokens(now)
				for _, n := range []int{-1, 0, 1, tokens, tokens + 1, size[0], size[0] + 1} {
					asked.wait(now, n)
				}
			}
			if got, want := asked.tokens(now), quiet.tokens(now); got != want {
				t.Fatalf("%v: asked again and again at %d there are %d, else %d", size, now, got, want)
			}
			for _, later := range []int{now + 1, now + size[2], now + 5*size[2] + 1} {
				if later <= mostTime {
					asked.tokens(later)
				}
			}
		}
	}
}

func TestWaitNumbers(t *testing.T) {
	p := newPair(t, 4, 2, 10, 0)
	p.take(0, 3)
	cases := []struct{ n, want int }{
		{math.MinInt, 0}, {-1, 0}, {0, 0}, {1, 0}, {2, 7}, {3, 7}, {4, 17},
		{5, -1}, {mostTokens, -1}, {mostTokens + 1, -1}, {math.MaxInt, -1},
	}
	for _, c := range cases {
		if got := p.wait(3, c.n); got != c.want {
			t.Errorf("Wait(3, %d) = %d, want %d", c.n, got, c.want)
		}
	}
	full := newPair(t, 4, 2, 10, 0)
	for n, want := range []int{0, 0, 0, 0, 0, -1} {
		if got := full.wait(25, n); got != want {
			t.Errorf("Wait(25, %d) of a full bucket = %d, want %d", n, got, want)
		}
	}
}

func TestWaitHolds(t *testing.T) {
	for _, size := range sizes {
		for _, start := range []int{0, 9, 1000003} {
			for _, off := range []int{0, 1, size[2] - 1, size[2], size[2] + 1, 3*size[2] + 2} {
				for _, n := range []int{1, 2, size[1], size[1] + 1, size[0] - 1, size[0]} {
					if n >= 1 && n <= size[0] {
						holdWait(t, size, start, start+off, n)
					}
				}
			}
		}
	}
}

// holdWait fails if there are n tokens a tick ahead of what Wait says, or fewer at it.
func holdWait(t *testing.T, size [3]int, start int, now int, n int) {
	t.Helper()
	for _, ahead := range []int{1, 0} {
		p := newPair(t, size[0], size[1], size[2], start)
		p.drain(start)
		wait := p.wait(now, n)
		if wait == 0 {
			if got := p.tokens(now); got < n {
				t.Fatalf("%v from %d: Wait(%d, %d) is 0, with %d tokens", size, start, now, n, got)
			}
			continue
		}
		if wait < 0 || now+wait > mostTime {
			// The tick can't be told; the oracle has looked for it.
			continue
		}
		if got := p.tokens(now + wait - ahead); (got >= n) != (ahead == 0) {
			t.Fatalf("%v from %d: Wait(%d, %d) = %d, %d tick ahead of it there are %d", size, start, now, n, wait, ahead, got)
		}
		if got := p.take(now+wait-ahead, n); got != (ahead == 0) {
			t.Fatalf("%v from %d: Wait(%d, %d) = %d, %d tick ahead of it Take is %v", size, start, now, n, wait, ahead, got)
		}
	}
}

func TestWaitPastTheEndOfTime(t *testing.T) {
	p := newPair(t, mostTokens, 1, mostTokens, 0)
	p.drain(0)
	if got := p.wait(0, mostTokens); got != 1<<60 {
		t.Errorf("Wait(0, MaxTokens) = %d, want 2^60", got)
	}
	p = newPair(t, 4, 2, 10, mostTime-3)
	p.drain(mostTime)
	if got := p.wait(mostTime, 2); got != 7 {
		t.Errorf("Wait(MaxTime, 2) = %d, want 7", got)
	}
	if got := p.wait(mostTime, 3); got != 17 {
		t.Errorf("Wait(MaxTime, 3) = %d, want 17", got)
	}
	p.same("at the end of time")
}

// All promises at once.

func TestAgainstOracle(t *testing.T) {
	for seed := range 300 {
		d := dice.New(seed)
		size := sizes[d.Below(len(sizes))]
		if seed%3 == 0 {
			size = [3]int{1 + d.Below(20), 1 + d.Below(8), 1 + d.Below(12)}
		}
		p := newPair(t, size[0], size[1], size[2], starts[d.Below(len(starts)-2)])
		for range 200 {
			now := p.o.told + step(d, size[2])
			switch kind := d.Below(10); {
			case kind < 4:
				p.take(now, amount(d, p.o))
			case kind < 6:
				p.tokens(now)
			case kind < 8:
				p.wait(now, amount(d, p.o))
			case kind < 9:
				p.drain(min(max(now, p.o.told), mostTime))
			default:
				p.same("a run of calls")
			}
		}
		p.same("behind a run of calls")
	}
}

// step draws how many ticks pass ahead of a call: now and then one too few.
func step(d *dice.Dice, every int) int {
	switch d.Below(8) {
	case 0:
		return -1 - d.Below(3)
	case 1, 2:
		return 0
	case 3, 4:
		return d.Below(every) / 3
	case 5:
		return every - 1 + d.Below(3)
	case 6:
		return d.Below(5 * every)
	}
	return d.Below(2 << d.Below(38))
}

// amount draws a number of tokens: often about those that there are, or about the most.
func amount(d *dice.Dice, o *oracle) int {
	switch d.Below(5) {
	case 0:
		return o.left - 1 + d.Below(3)
	case 1:
		return o.most - 1 + d.Below(3)
	case 2:
		return d.Below(3) - 1
	}
	return 1 + d.Below(o.most)
}

// The chapter's examples.

func TestExamples(t *testing.T) {
	b, errno := bucket.New(4, 2, 10, 0)
	if b == nil || errno != api.OK {
		t.Fatalf("New = %v, %d", b, errno)
	}
	takes := func(now int, n int, want bool) {
		t.Helper()
		if got, errno := b.Take(now, n); got != want || errno != api.OK {
			t.Errorf("Take(%d, %d) = %v, %d", now, n, got, errno)
		}
	}
	has := func(now int, want int) {
		t.Helper()
		if got, errno := b.Tokens(now); got != want || errno != api.OK {
			t.Errorf("Tokens(%d) = %d, %d, want %d", now, got, errno, want)
		}
	}
	waits := func(now int, n int, want int) {
		t.Helper()
		if got, errno := b.Wait(now, n); got != want || errno != api.OK {
			t.Errorf("Wait(%d, %d) = %d, %d, want %d", now, n, got, errno, want)
		}
	}
	takes(0, 3, true)
	takes(0, 2, false)
	has(9, 1)
	waits(9, 4, 11)
	has(25, 4)
	waits(25, 5, -1)
	takes(25, 4, true)
	has(29, 0)
	has(30, 2)
}
