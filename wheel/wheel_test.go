package wheel_test

import (
	"math"
	"slices"
	"testing"

	"barbican/api"
	"barbican/dice"
	"barbican/wheel"
)

// mostId is the greatest number of a timer, by the chapter.
const mostId = 1 << 40

// oracle is a wheel that goes through all its timers each time.
type oracle struct {
	now   int
	times map[int]int
}

func newOracle() *oracle {
	return &oracle{times: map[int]int{}}
}

func (o *oracle) set(id int, at int) api.Errno {
	_, old := o.times[id]
	switch {
	case id < 0 || id > 1<<40:
		return 21
	case at < o.now || at > 1<<40:
		return 20
	case !old && len(o.times) == 4096:
		return 22
	}
	o.times[id] = at
	return 0
}

func (o *oracle) cancel(id int) bool {
	_, set := o.times[id]
	delete(o.times, id)
	return set
}

// upTo are the timers whose time is at most at, in their order.
func (o *oracle) upTo(at int) []wheel.Timer {
	var timers []wheel.Timer
	for id, time := range o.times {
		if time <= at {
			timers = append(timers, wheel.Timer{Id: id, At: time})
		}
	}
	slices.SortFunc(timers, func(a, b wheel.Timer) int {
		if a.At != b.At {
			return a.At - b.At
		}
		return a.Id - b.Id
	})
	return timers
}

func (o *oracle) next() (wheel.Timer, bool) {
	if timers := o.upTo(math.MaxInt); len(timers) > 0 {
		return timers[0], true
	}
	return wheel.Timer{}, false
}

func (o *oracle) advance(to int) ([]wheel.Timer, api.Errno) {
	if to < o.now || to > 1<<40 {
		return nil, 20
	}
	fired := o.upTo(to)
	for _, t := range fired {
		delete(o.times, t.Id)
	}
	o.now = to
	return fired, 0
}

// pair is a wheel and the oracle that is told the same.
type pair struct {
	t *testing.T
	w *wheel.Wheel
	o *oracle
}

func newPair(t *testing.T) *pair {
	w := wheel.New()
	if w == nil {
		t.Fatal("New is no wheel")
	}
	return &pair{t: t, w: w, o: newOracle()}
}

// same fails if the wheel can be told from the oracle without a change of either.
func (p *pair) same(what string) {
	p.t.Helper()
	if p.w.Now() != p.o.now || p.w.Len() != len(p.o.times) {
		p.t.Fatalf("%s: Now = %d, Len = %d, want %d, %d", what, p.w.Now(), p.w.Len(), p.o.now, len(p.o.times))
	}
	got, some := p.w.Next()
	if want, wanted := p.o.next(); got != want || some != wanted {
		p.t.Fatalf("%s: Next = %v, %v, want %v, %v", what, got, some, want, wanted)
	}
	for id, at := range p.o.times {
		if due, set := p.w.Due(id); due != at || !set {
			p.t.Fatalf("%s: Due(%d) = %d, %v, want %d, true", what, id, due, set, at)
		}
	}
}

func (p *pair) set(id int, at int) api.Errno {
	p.t.Helper()
	got, want := p.w.Set(id, at), p.o.set(id, at)
	if got != want {
		p.t.Fatalf("Set(%d, %d) at %d = %d, want %d", id, at, p.o.now, got, want)
	}
	due, set := p.w.Due(id)
	if time, wanted := p.o.times[id]; due != time || set != wanted {
		p.t.Fatalf("Set(%d, %d): Due = %d, %v, want %d, %v", id, at, due, set, time, wanted)
	}
	return got
}

func (p *pair) cancel(id int) bool {
	p.t.Helper()
	got, want := p.w.Cancel(id), p.o.cancel(id)
	if got != want {
		p.t.Fatalf("Cancel(%d) = %v, want %v", id, got, want)
	}
	if at, set := p.w.Due(id); at != 0 || set {
		p.t.Fatalf("Cancel(%d): Due = %d, %v, want 0, false", id, at, set)
	}
	return got
}

func (p *pair) advance(to int) []wheel.Timer {
	p.t.Helper()
	from := p.o.now
	got, errno := p.w.Advance(to)
	want, wanted := p.o.advance(to)
	if errno != wanted || !slices.Equal(got, want) {
		p.t.Fatalf("Advance(%d) from %d = %v, %d, want %v, %d", to, from, got, errno, want, wanted)
	}
	return got
}

// end fires all that is left: a timer that was lost, or one that stands twice, shows now at the latest.
func (p *pair) end() {
	p.t.Helper()
	p.same("ahead of the end")
	p.advance(api.MaxTime)
	p.same("at the end")
	if p.w.Len() != 0 {
		p.t.Fatalf("at the end: Len = %d, want 0", p.w.Len())
	}
}

// corners are times about the ends of the slots and of the levels, up to MaxTime.
func corners() []int {
	times := []int{0, 1, 2, 5, 30, 69, 70, 100, 1000, 4096*3 + 64*2 + 1, 1 << 20}
	for bits := 6; bits <= 36; bits += 6 {
		for _, off := range []int{-65, -64, -63, -2, -1, 0, 1, 2, 63, 64, 65} {
			times = append(times, max(0, 1<<bits+off), max(0, 1<<bits*2+off), max(0, 1<<bits*5+off))
		}
	}
	times = append(times, api.MaxTime-65, api.MaxTime-64, api.MaxTime-2, api.MaxTime-1, api.MaxTime)
	slices.Sort(times)
	return slices.Compact(times)
}

// P2.1: Set.

func TestNewIsEmpty(t *testing.T) {
	p := newPair(t)
	p.same("a new wheel")
	if next, some := p.w.Next(); next != (wheel.Timer{}) || some {
		t.Errorf("Next of a new wheel = %v, %v", next, some)
	}
	if at, set := p.w.Due(0); at != 0 || set {
		t.Errorf("Due of a new wheel = %d, %v", at, set)
	}
	p.end()
}

func TestSetIds(t *testing.T) {
	cases := []struct {
		id   int
		want api.Errno
	}{
		{0, api.OK}, {1, api.OK}, {1<<40 - 1, api.OK}, {1 << 40, api.OK},
		{-1, api.ErrId}, {1<<40 + 1, api.ErrId}, {math.MinInt, api.ErrId}, {math.MaxInt, api.ErrId},
	}
	for _, c := range cases {
		p := newPair(t)
		if got := p.set(c.id, 7); got != c.want {
			t.Errorf("Set(%d, 7) = %d, want %d", c.id, got, c.want)
		}
		p.same("behind a number at its bounds")
		p.end()
	}
}

func TestSetTimes(t *testing.T) {
	for _, now := range []int{0, 1, 63, 64, 4096, 123456789, api.MaxTime - 1, api.MaxTime} {
		cases := []struct {
			at   int
			want api.Errno
		}{
			{now, api.OK}, {api.MaxTime, api.OK},
			{now - 1, api.ErrTime}, {-1, api.ErrTime}, {math.MinInt, api.ErrTime},
			{api.MaxTime + 1, api.ErrTime}, {math.MaxInt, api.ErrTime},
		}
		for _, c := range cases {
			p := newPair(t)
			p.advance(now)
			if got := p.set(3, c.at); got != c.want {
				t.Errorf("at %d: Set(3, %d) = %d, want %d", now, c.at, got, c.want)
			}
			p.same("behind a time at its bounds")
			p.end()
		}
	}
}

func TestSetTellsIdFirst(t *testing.T) {
	p := newPair(t)
	for id := range api.MaxTimers {
		p.set(id, 100)
	}
	p.advance(50)
	cases := []struct {
		id, at int
		want   api.Errno
	}{
		{-1, 49, api.ErrId}, {mostId + 1, api.MaxTime + 1, api.ErrId}, {-1, 60, api.ErrId},
		{api.MaxTimers, 49, api.ErrTime}, {api.MaxTimers, api.MaxTime + 1, api.ErrTime}, {api.MaxTimers, 60, api.ErrMany},
		{5, 49, api.ErrTime}, {5, 60, api.OK},
	}
	for _, c := range cases {
		if got := p.set(c.id, c.at); got != c.want {
			t.Errorf("Set(%d, %d) of a full wheel = %d, want %d", c.id, c.at, got, c.want)
		}
	}
	p.same("behind wrong numbers")
	p.end()
}

func TestSetMany(t *testing.T) {
	p := newPair(t)
	for id := range api.MaxTimers {
		if got := p.set(id, id*999); got != api.OK {
			t.Fatalf("timer %d of 4096: %d", id+1, got)
		}
	}
	if got := p.set(api.MaxTimers, 5); got != api.ErrMany {
		t.Fatalf("timer 4097: %d, want ErrMany", got)
	}
	p.same("behind one too many")
	if got := p.set(17, 0); got != api.OK {
		t.Fatalf("one that is set, set anew in a full wheel: %d", got)
	}
	p.same("behind one set anew in a full wheel")
	p.cancel(4000)
	if got := p.set(mostId, 5); got != api.OK {
		t.Fatalf("behind a struck one there is room, but: %d", got)
	}
	if got := p.set(4000, 5); got != api.ErrMany {
		t.Fatalf("the struck one again, in a full wheel: %d, want ErrMany", got)
	}
	if fired := p.advance(0); len(fired) != 2 {
		t.Fatalf("fired at 0: %v", fired)
	}
	if p.set(4000, 6) != api.OK || p.set(4001, 6) != api.OK || p.set(5000, 6) != api.OK || p.set(5001, 6) != api.ErrMany {
		t.Fatal("behind two that fired there is room for two")
	}
	p.same("a full wheel")
	p.end()
}

func TestSetAnew(t *testing.T) {
	for _, now := range []int{0, 60, 64, 4000, 1 << 30} {
		for _, first := range corners() {
			if first < now {
				continue
			}
			for _, second := range []int{now, now + 1, first - 1, first, first + 1, first + 64, first * 2, api.MaxTime} {
				if second < now || second > api.MaxTime {
					continue
				}
				p := newPair(t)
				p.advance(now)
				p.set(8, first)
				p.set(8, second)
				p.same("behind one that is set anew")
				p.advance(max(first, second) - 1)
				p.same("ahead of the later time")
				p.end()
			}
		}
	}
}

func TestSetAnewBesideOthers(t *testing.T) {
	p := newPair(t)
	for id := range 40 {
		p.set(id, 1000)
	}
	p.set(20, 5)
	p.set(0, 1<<35)
	p.set(39, 1000)
	p.same("some set anew")
	if fired := p.advance(999); !slices.Equal(fired, []wheel.Timer{{Id: 20, At: 5}}) {
		t.Errorf("fired = %v", fired)
	}
	if fired := p.advance(1000); len(fired) != 38 {
		t.Errorf("%d fired, want 38", len(fired))
	}
	p.end()
}

func TestRefusedSetKeepsTheOldTime(t *testing.T) {
	p := newPair(t)
	p.advance(10)
	p.set(4, 90)
	for _, at := range []int{9, -1, api.MaxTime + 1, math.MinInt, math.MaxInt} {
		if got := p.set(4, at); got != api.ErrTime {
			t.Errorf("Set(4, %d) = %d, want ErrTime", at, got)
		}
		p.same("behind a time that is refused")
	}
	if at, set := p.w.Due(4); at != 90 || !set {
		t.Errorf("Due(4) = %d, %v, want 90, true", at, set)
	}
	p.end()
}

// P2.2: Cancel, Due, Next, Len, Now.

func TestCancel(t *testing.T) {
	for _, at := range corners() {
		p := newPair(t)
		p.set(1, at)
		p.set(2, at)
		p.set(3, at)
		if !p.cancel(2) || p.cancel(2) {
			t.Fatalf("a timer at %d, struck twice", at)
		}
		p.same("behind one that is struck")
		if got := p.advance(at); !slices.Equal(got, []wheel.Timer{{Id: 1, At: at}, {Id: 3, At: at}}) {
			t.Fatalf("Advance(%d) = %v", at, got)
		}
		if p.cancel(1) {
			t.Fatalf("a timer at %d is struck behind its fire", at)
		}
		p.end()
	}
}

func TestCancelOfNone(t *testing.T) {
	p := newPair(t)
	p.set(0, 40)
	for _, id := range []int{-1, 1, mostId, mostId + 1, math.MinInt, math.MaxInt} {
		if p.cancel(id) {
			t.Errorf("Cancel(%d) struck something", id)
		}
		p.same("behind a timer that isn't set")
	}
	p.end()
}

func TestCancelAndSetAgain(t *testing.T) {
	p := newPair(t)
	p.set(6, 5000)
	p.advance(4990)
	p.cancel(6)
	p.same("an empty wheel again")
	p.set(6, 4995)
	p.same("behind a struck timer, set again")
	if got := p.advance(5001); !slices.Equal(got, []wheel.Timer{{Id: 6, At: 4995}}) {
		t.Errorf("fired = %v", got)
	}
	p.end()
}

func TestCancelBehindTime(t *testing.T) {
	// By then the timers lie nearer than they were set: a struck one must be found where it lies now.
	for _, at := range corners() {
		for _, ahead := range []int{1, 2, 63, 64, 65, 4095, 4096, 1 << 18, 1 << 24} {
			if at < ahead {
				continue
			}
			p := newPair(t)
			p.set(1, at)
			p.set(2, at)
			p.advance(at - ahead)
			p.cancel(1)
			p.same("behind one that is struck late")
			p.end()
		}
	}
}

func TestDue(t *testing.T) {
	p := newPair(t)
	p.set(0, 0)
	p.set(mostId, api.MaxTime)
	cases := []struct {
		id, at int
		set    bool
	}{
		{0, 0, true}, {mostId, api.MaxTime, true},
		{1, 0, false}, {-1, 0, false}, {mostId + 1, 0, false}, {math.MinInt, 0, false}, {math.MaxInt, 0, false},
	}
	for _, c := range cases {
		if at, set := p.w.Due(c.id); at != c.at || set != c.set {
			t.Errorf("Due(%d) = %d, %v, want %d, %v", c.id, at, set, c.at, c.set)
		}
	}
	p.advance(0)
	if at, set := p.w.Due(0); at != 0 || set {
		t.Errorf("Due of a timer that fired = %d, %v", at, set)
	}
	p.end()
}

func TestNextIsTheFirst(t *testing.T) {
	for _, now := range []int{0, 1, 63, 64, 100, 4095, 4096, 262143, 1<<30 - 1, 1 << 36, api.MaxTime - 100} {
		p := newPair(t)
		p.advance(now)
		times := corners()
		slices.Reverse(times)
		for id, at := range times {
			p.set(id, at)
			p.same("one more, and earlier")
		}
		// Struck one by one, each is first at last.
		for some := true; some; {
			var next wheel.Timer
			if next, some = p.w.Next(); some {
				p.cancel(next.Id)
				p.same("the first one struck")
			}
		}
		p.end()
	}
}

func TestNextChangesNothing(t *testing.T) {
	p := newPair(t)
	p.set(2, 9000)
	p.set(1, 9000)
	for range 3 {
		if next, some := p.w.Next(); next != (wheel.Timer{Id: 1, At: 9000}) || !some {
			t.Errorf("Next = %v, %v", next, some)
		}
	}
	p.same("behind Next")
	p.end()
}

// P2.3: Advance.

func TestAdvanceBounds(t *testing.T) {
	for _, now := range []int{0, 1, 64, 5000, api.MaxTime - 1, api.MaxTime} {
		p := newPair(t)
		p.advance(now)
		p.set(1, now)
		p.set(2, api.MaxTime)
		for _, to := range []int{now - 1, now - 64, -1, math.MinInt, api.MaxTime + 1, math.MaxInt} {
			if got, errno := p.w.Advance(to); len(got) != 0 || errno != api.ErrTime {
				t.Fatalf("at %d: Advance(%d) = %v, %d, want nothing and ErrTime", now, to, got, errno)
			}
			p.same("behind a time that is refused")
		}
		if fired := p.advance(now); len(fired) == 0 {
			t.Fatalf("at %d: a timer of the time now doesn't fire", now)
		}
		if fired := p.advance(now); len(fired) != 0 {
			t.Fatalf("at %d: fired twice: %v", now, fired)
		}
		p.end()
	}
}

func TestAdvanceFiresAtTheTime(t *testing.T) {
	for _, now := range corners() {
		for _, at := range corners() {
			if at < now {
				continue
			}
			p := newPair(t)
			p.advance(now)
			p.set(5, at)
			if at > now {
				if fired := p.advance(at - 1); len(fired) != 0 {
					t.Fatalf("set at %d to %d: fired one ahead: %v", now, at, fired)
				}
			}
			p.same("one ahead")
			if fired := p.advance(at); !slices.Equal(fired, []wheel.Timer{{Id: 5, At: at}}) {
				t.Fatalf("set at %d to %d: fired %v", now, at, fired)
			}
			p.same("behind the fire")
		}
	}
}

func TestAdvanceOrder(t *testing.T) {
	// The timers of one time are set from several distances and in no order of their numbers.
	p := newPair(t)
	const at = 300000
	for i, now := range []int{0, 1, 262144, 290000, 299900, 299998} {
		p.advance(now)
		for _, id := range []int{50, 3, 90, 0, mostId/10 - 9, 47} {
			p.set(id*10+9-i, at)
		}
		p.set(10000+i, at+1+i)
		p.set(20000+i, at-1)
		p.same("several timers at one time")
	}
	if fired := p.advance(at - 1); len(fired) != 6 {
		t.Errorf("one ahead %d fired: %v", len(fired), fired)
	}
	fired := p.advance(at)
	if len(fired) != 6*6 {
		t.Errorf("%d fired: %v", len(fired), fired)
	}
	for i := range len(fired) - 1 {
		if fired[i].Id >= fired[i+1].Id {
			t.Errorf("%v ahead of %v", fired[i], fired[i+1])
		}
	}
	p.end()
}

func TestAdvanceInOneAndInMany(t *testing.T) {
	times := corners()
	p := newPair(t)
	for id, at := range times {
		p.set(2*id+1, at)
		p.set(2*id, at)
	}
	whole := p.advance(api.MaxTime)
	if len(whole) != 2*len(times) {
		t.Fatalf("%d fired, want %d", len(whole), 2*len(times))
	}
	steps := [][]int{{1, 100}, {3, 7}, {64, 64}, {63, 65}, {4096, 4095}, {1 << 18, 1 << 18}, {1<<24 - 1, 1 << 30}, {1 << 36, 1}}
	for _, step := range steps {
		q := newPair(t)
		for id, at := range times {
			q.set(2*id, at)
			q.set(2*id+1, at)
		}
		var told []wheel.Timer
		// The steps grow, else there were too many.
		for i, to := 0, 0; ; i++ {
			told = append(told, q.advance(to)...)
			q.same("time in pieces")
			if to == api.MaxTime {
				break
			}
			to = min(to+step[i%2]+to/50, api.MaxTime)
		}
		if !slices.Equal(told, whole) {
			t.Errorf("in steps of %v: fired\n%v\nwant\n%v", step, told, whole)
		}
	}
}

func TestAdvanceTickByTick(t *testing.T) {
	d := dice.New(31)
	for _, start := range []int{0, 4096 - 100, 1<<18 - 200, 1<<36 - 70, api.MaxTime - 9000} {
		p := newPair(t)
		p.advance(start)
		for id := range 300 {
			p.set(id, start+d.Below(9000))
		}
		for now := start; now < start+9000; now++ {
			p.advance(now)
			if now%50 == 0 {
				p.same("tick by tick")
			}
		}
		p.end()
	}
}

func TestAdvanceFiresMany(t *testing.T) {
	for _, at := range []int{0, 63, 64, 5000, 1 << 33, api.MaxTime} {
		p := newPair(t)
		for i := range api.MaxTimers {
			p.set((i*1021)%api.MaxTimers, at)
		}
		if fired := p.advance(at); len(fired) != api.MaxTimers {
			t.Fatalf("%d of 4096 fired", len(fired))
		}
		p.same("behind 4096 that fired")
		p.end()
	}
}

func TestAnswersAreNewMemory(t *testing.T) {
	p := newPair(t)
	for id := range 10 {
		p.set(id, 70)
		p.set(100+id, 71+id)
	}
	first := p.advance(70)
	kept := slices.Clone(first)
	clear(first[:cap(first)])
	p.same("behind a change of an answer")
	p.set(1, 72)
	second := p.advance(75)
	for i := range second {
		second[i].At = 0
	}
	_ = append(second[:0], kept...)
	p.same("behind a change of another one")
	p.end()
}

func TestWheelsAreApart(t *testing.T) {
	p, q := newPair(t), newPair(t)
	p.set(1, 50)
	q.set(1, 60)
	q.set(2, 10)
	p.advance(20)
	q.cancel(1)
	p.same("a wheel beside another one")
	q.same("the other one")
	p.end()
	q.end()
}

// All promises at once.

// far draws a distance: each level's are as likely as another's.
func far(d *dice.Dice) int {
	return d.Below(2 << d.Below(41))
}

func TestAgainstOracle(t *testing.T) {
	for seed := range 60 {
		d := dice.New(seed)
		p := newPair(t)
		for step := range 600 {
			switch kind := d.Below(20); {
			case kind < 10:
				p.set(d.Below(60), p.o.now+far(d))
			case kind < 13:
				p.cancel(d.Below(60))
			case kind < 14:
				p.set(d.Below(60)-30, p.o.now+d.Below(40)-20)
			case kind < 15:
				p.set(mostId-30+d.Below(60), api.MaxTime-20+d.Below(40))
			case kind < 16:
				p.advance(p.o.now - d.Below(3))
			case kind < 17:
				if next, some := p.w.Next(); some {
					p.advance(next.At - d.Below(2))
				}
			default:
				p.advance(p.o.now + far(d)/(1+step%7*100))
			}
			p.same("a run of calls")
		}
		p.end()
	}
}

// The chapter's examples.

func TestExamples(t *testing.T) {
	w := wheel.New()
	if w.Set(3, 70) != api.OK || w.Set(1, 70) != api.OK || w.Set(9, 5) != api.OK {
		t.Fatal("Set")
	}
	if next, some := w.Next(); next != (wheel.Timer{Id: 9, At: 5}) || !some {
		t.Errorf("Next = %v, %v", next, some)
	}
	if fired, errno := w.Advance(69); !slices.Equal(fired, []wheel.Timer{{Id: 9, At: 5}}) || errno != api.OK {
		t.Errorf("Advance(69) = %v, %d", fired, errno)
	}
	if fired, errno := w.Advance(70); !slices.Equal(fired, []wheel.Timer{{Id: 1, At: 70}, {Id: 3, At: 70}}) || errno != api.OK {
		t.Errorf("Advance(70) = %v, %d", fired, errno)
	}
	if w.Len() != 0 || w.Now() != 70 || w.Set(1, 69) != api.ErrTime {
		t.Errorf("Len = %d, Now = %d", w.Len(), w.Now())
	}

	w = wheel.New()
	if errno := w.Set(5, 0); errno != api.OK {
		t.Errorf("Set(5, 0) = %d", errno)
	}
	if fired, errno := w.Advance(0); !slices.Equal(fired, []wheel.Timer{{Id: 5, At: 0}}) || errno != api.OK {
		t.Errorf("Advance(0) = %v, %d", fired, errno)
	}
}
