package dice_test

import (
	"hash/fnv"
	"math"
	"math/big"
	"strings"
	"testing"

	"barbican/dice"
)

// number reads a number in the base 16.
func number(text string) *big.Int {
	n, ok := new(big.Int).SetString(text, 16)
	if !ok {
		panic("no number: " + text)
	}
	return n
}

// wide is a number without a sign, of any width.
func wide(x uint64) *big.Int {
	return new(big.Int).SetUint64(x)
}

// wrap takes a number modulo 2^64 (below 0 too).
func wrap(n *big.Int) *big.Int {
	return new(big.Int).And(n, number("ffffffffffffffff"))
}

// stir is Mix reckoned without any wrap-round of the language's own.
func stir(x *big.Int) *big.Int {
	x = new(big.Int).Xor(x, new(big.Int).Rsh(x, 30))
	x = wrap(x.Mul(x, number("bf58476d1ce4e5b9")))
	x = new(big.Int).Xor(x, new(big.Int).Rsh(x, 27))
	x = wrap(x.Mul(x, number("94d049bb133111eb")))
	return new(big.Int).Xor(x, new(big.Int).Rsh(x, 31))
}

// oracle is a dice reckoned with numbers of any width.
type oracle struct {
	state *big.Int
	drawn int
}

func newOracle(seed int) *oracle {
	return &oracle{state: wrap(big.NewInt(int64(seed)))}
}

func (o *oracle) next() *big.Int {
	o.state = wrap(new(big.Int).Add(o.state, number("9e3779b97f4a7c15")))
	o.drawn++
	return stir(o.state)
}

func (o *oracle) below(n int) int {
	if n < 1 {
		return 0
	}
	product := new(big.Int).Mul(o.next(), big.NewInt(int64(n)))
	return int(product.Rsh(product, 64).Int64())
}

func (o *oracle) jitter(base int, percent int) int {
	if base < 1 || base > 1<<40 || percent < 1 || percent > 100 {
		return base
	}
	width := new(big.Int).Mul(big.NewInt(int64(base)), big.NewInt(int64(percent)))
	width.Div(width, big.NewInt(100))
	return base - o.below(int(width.Int64())+1)
}

// seeds are ordinary ones, the edges of an int, and some below 0.
var seeds = []int{0, 1, 2, 7, 1234567, -1, -2, -1234567, math.MaxInt, math.MaxInt - 1, math.MinInt, math.MinInt + 1}

// same fails if d isn't where o is: as many draws, and the same number to come.
func same(t *testing.T, d *dice.Dice, o *oracle, what string) {
	t.Helper()
	if d.Drawn() != o.drawn {
		t.Fatalf("%s: Drawn = %d, want %d", what, d.Drawn(), o.drawn)
	}
	if got, want := d.Next(), o.next(); got != want.Uint64() {
		t.Fatalf("%s: the next draw is %#x, want %#x", what, got, want)
	}
}

// P1.1: Mix.

func TestMixKnown(t *testing.T) {
	// The answers for the first multiples of the step are the known draws of seed 0.
	known := []struct{ x, want uint64 }{
		{0, 0},
		{0x9e3779b97f4a7c15, 0xe220a8397b1dcdaf},
		{0x3c6ef372fe94f82a, 0x6e789e6aa1b965f4},
		{0xdaa66d2c7ddf743f, 0x06c45d188009454f},
		{0x78dde6e5fd29f054, 0xf88bb8a8724c81ec},
		{0x1715609f7c746c69, 0x1b39896a51a8749b},
	}
	for _, k := range known {
		if got := dice.Mix(k.x); got != k.want {
			t.Errorf("Mix(%#x) = %#x, want %#x", k.x, got, k.want)
		}
	}
}

func TestMixOfEachBit(t *testing.T) {
	for bit := range 64 {
		for _, x := range []uint64{1 << bit, ^uint64(1 << bit), 1<<bit - 1, math.MaxUint64 << bit} {
			if got, want := dice.Mix(x), stir(wide(x)); got != want.Uint64() {
				t.Errorf("Mix(%#x) = %#x, want %#x", x, got, want)
			}
		}
	}
}

// P1.1: Hash.

func TestHashKnown(t *testing.T) {
	known := []struct {
		text string
		want uint64
	}{
		{"", 0xcbf29ce484222325},
		{"a", 0xaf63dc4c8601ec8c},
		{"b", 0xaf63df4c8601f1a5},
		{"foobar", 0x85944171f73967e8},
		{"\x00", 0xaf63bd4c8601b7df},
	}
	for _, k := range known {
		if got := dice.Hash(k.text); got != k.want {
			t.Errorf("Hash(%q) = %#x, want %#x", k.text, got, k.want)
		}
	}
}

func TestHashOfBytes(t *testing.T) {
	texts := []string{"ab", "ba", "a\x00", "\x00a", "é", "\xc3", "\xff\xfe\x80", "日本", strings.Repeat("xyz", 5000)}
	for b := range 256 {
		texts = append(texts, string([]byte{byte(b)}), string([]byte{'k', byte(b), 'k'}))
	}
	for _, s := range texts {
		h := fnv.New64a()
		h.Write([]byte(s))
		if got := dice.Hash(s); got != h.Sum64() {
			t.Errorf("Hash(%q) = %#x, want %#x", s, got, h.Sum64())
		}
	}
}

// P1.1: New.

func TestNewState(t *testing.T) {
	for _, seed := range seeds {
		d := dice.New(seed)
		if d == nil || d.Drawn() != 0 {
			t.Fatalf("New(%d) is no dice without draws", seed)
		}
		state := wrap(big.NewInt(int64(seed)))
		want := stir(wrap(state.Add(state, number("9e3779b97f4a7c15"))))
		if got := d.Next(); got != want.Uint64() {
			t.Errorf("New(%d): the first draw is %#x, want %#x", seed, got, want)
		}
	}
	// -1 is 2^64 - 1, so the state of its first draw is the step less one.
	if got, want := dice.New(-1).Next(), dice.Mix(0x9e3779b97f4a7c14); got != want {
		t.Errorf("New(-1): the first draw is %#x, want %#x", got, want)
	}
}

func TestDiceAreApart(t *testing.T) {
	first, second := dice.New(5), dice.New(5)
	for range 9 {
		first.Next()
	}
	if second.Drawn() != 0 {
		t.Errorf("another dice's draws are counted: %d", second.Drawn())
	}
	same(t, second, newOracle(5), "a dice beside another one")
	if first.Drawn() != 9 {
		t.Errorf("Drawn = %d, want 9", first.Drawn())
	}
}

// P1.2: Next and Drawn.

func TestNextKnown(t *testing.T) {
	known := []struct {
		seed int
		want []uint64
	}{
		{0, []uint64{0xe220a8397b1dcdaf, 0x6e789e6aa1b965f4, 0x06c45d188009454f, 0xf88bb8a8724c81ec, 0x1b39896a51a8749b}},
		{1234567, []uint64{6457827717110365317, 3203168211198807973, 9817491932198370423, 4593380528125082431, 16408922859458223821}},
	}
	for _, k := range known {
		d := dice.New(k.seed)
		for i, want := range k.want {
			if got := d.Next(); got != want || d.Drawn() != i+1 {
				t.Errorf("New(%d): draw %d is %#x, want %#x; Drawn %d", k.seed, i+1, got, want, d.Drawn())
			}
		}
	}
}

func TestNextOfManySeeds(t *testing.T) {
	for _, seed := range seeds {
		d, o := dice.New(seed), newOracle(seed)
		for range 300 {
			same(t, d, o, "a run of draws")
		}
	}
}

func TestDrawnDrawsNothing(t *testing.T) {
	d, o := dice.New(3), newOracle(3)
	for range 10 {
		if d.Drawn() != 0 {
			t.Fatalf("Drawn = %d, want 0", d.Drawn())
		}
	}
	same(t, d, o, "behind Drawn")
}

// P1.2: Below.

func TestBelowOfNumbersBelowOne(t *testing.T) {
	d, o := dice.New(11), newOracle(11)
	for _, n := range []int{0, -1, -2, -7, -1 << 40, math.MinInt, math.MinInt + 1} {
		drawn := d.Drawn()
		if got := d.Below(n); got != 0 || d.Drawn() != drawn {
			t.Errorf("Below(%d) = %d with %d draws, want 0 with none", n, got, d.Drawn()-drawn)
		}
		same(t, d, o, "behind Below of a number below 1")
	}
}

func TestBelowIsTheHighHalf(t *testing.T) {
	numbers := []int{1, 2, 3, 5, 7, 10, 64, 100, 1 << 20, 1<<31 - 1, 1 << 31, 1 << 32, 1<<32 + 1, 1 << 40, 1 << 62, math.MaxInt - 1, math.MaxInt}
	for _, seed := range seeds {
		d, o := dice.New(seed), newOracle(seed)
		for _, n := range numbers {
			for range 20 {
				got, want := d.Below(n), o.below(n)
				if got != want || got < 0 || got >= n {
					t.Fatalf("seed %d: Below(%d) = %d, want %d", seed, n, got, want)
				}
				if d.Drawn() != o.drawn {
					t.Fatalf("seed %d: Below(%d): Drawn = %d, want %d", seed, n, d.Drawn(), o.drawn)
				}
			}
		}
		same(t, d, o, "behind many Below")
	}
}

func TestBelowOfOneDraws(t *testing.T) {
	d, o := dice.New(4), newOracle(4)
	for i := range 5 {
		if got := d.Below(1); got != 0 || d.Drawn() != i+1 {
			t.Errorf("Below(1) = %d with Drawn %d, want 0 with %d", got, d.Drawn(), i+1)
		}
		o.next()
	}
	same(t, d, o, "behind Below(1)")
}

func TestBelowReachesAll(t *testing.T) {
	d := dice.New(9)
	var seen [6]int
	for range 6000 {
		seen[d.Below(6)]++
	}
	for n, times := range seen {
		if times < 800 || times > 1200 {
			t.Errorf("Below(6) was %d in %d of 6000 draws", n, times)
		}
	}
}

// P1.3: Jitter.

func TestJitterOutOfBounds(t *testing.T) {
	wrong := []struct{ base, percent int }{
		{0, 50}, {-1, 50}, {-100, 100}, {math.MinInt, 1}, {math.MinInt, 100},
		{1<<40 + 1, 50}, {1<<40 + 1, 1}, {1 << 41, 100}, {math.MaxInt, 100}, {math.MaxInt, 1},
		{100, 0}, {100, -1}, {100, 101}, {100, -50}, {1, 101}, {1, 0}, {1 << 40, 101}, {1 << 40, 0},
		{100, math.MinInt}, {100, math.MaxInt},
		{0, 0}, {-5, -5}, {0, 101}, {math.MaxInt, math.MaxInt}, {math.MinInt, math.MinInt},
	}
	d, o := dice.New(21), newOracle(21)
	for _, w := range wrong {
		drawn := d.Drawn()
		if got := d.Jitter(w.base, w.percent); got != w.base || d.Drawn() != drawn {
			t.Errorf("Jitter(%d, %d) = %d with %d draws, want the base with none", w.base, w.percent, got, d.Drawn()-drawn)
		}
		same(t, d, o, "behind Jitter out of its bounds")
	}
}

func TestJitterTakesBelow(t *testing.T) {
	bases := []int{1, 2, 3, 8, 16, 64, 99, 100, 101, 199, 1000, 1 << 20, 1<<32 + 7, 1<<40 - 1, 1 << 40}
	for _, seed := range seeds {
		d, o := dice.New(seed), newOracle(seed)
		for _, base := range bases {
			for percent := 1; percent <= 100; percent++ {
				got, want := d.Jitter(base, percent), o.jitter(base, percent)
				if got != want || d.Drawn() != o.drawn {
					t.Fatalf("seed %d: Jitter(%d, %d) = %d with Drawn %d, want %d with %d", seed, base, percent, got, d.Drawn(), want, o.drawn)
				}
			}
		}
		same(t, d, o, "behind many Jitter")
	}
}

func TestJitterDrawsOnce(t *testing.T) {
	// Of {1, 1} and {1, 99} nothing can come off, and there is a draw nevertheless.
	for _, c := range []struct{ base, percent int }{{1, 1}, {1, 99}, {1, 100}, {99, 1}, {100, 1}, {1 << 40, 1}, {1 << 40, 100}} {
		d := dice.New(6)
		got := d.Jitter(c.base, c.percent)
		if d.Drawn() != 1 {
			t.Errorf("Jitter(%d, %d): Drawn = %d, want 1", c.base, c.percent, d.Drawn())
		}
		if c.base*c.percent < 100 && got != c.base {
			t.Errorf("Jitter(%d, %d) = %d, want the base", c.base, c.percent, got)
		}
	}
}

func TestJitterReachesItsEnds(t *testing.T) {
	cases := []struct{ base, percent, least int }{
		{10, 50, 5}, {10, 100, 0}, {8, 50, 4}, {3, 50, 2}, {1, 100, 0}, {199, 1, 198},
	}
	for _, c := range cases {
		d := dice.New(13)
		seen := map[int]int{}
		for range 2000 {
			seen[d.Jitter(c.base, c.percent)]++
		}
		for n := c.least; n <= c.base; n++ {
			if seen[n] == 0 {
				t.Errorf("Jitter(%d, %d) was never %d", c.base, c.percent, n)
			}
		}
		if len(seen) != c.base-c.least+1 {
			t.Errorf("Jitter(%d, %d) had %d answers, want %d to %d", c.base, c.percent, len(seen), c.least, c.base)
		}
	}
}

// The chapter's examples.

func TestExamples(t *testing.T) {
	if got := dice.Mix(0); got != 0 {
		t.Errorf("Mix(0) = %#x", got)
	}
	d := dice.New(0)
	if got := d.Next(); got != 0xe220a8397b1dcdaf || d.Drawn() != 1 {
		t.Errorf("Next = %#x, Drawn = %d", got, d.Drawn())
	}
	if got := d.Below(0); got != 0 || d.Drawn() != 1 {
		t.Errorf("Below(0) = %d, Drawn = %d", got, d.Drawn())
	}
	if got := d.Jitter(100, 0); got != 100 || d.Drawn() != 1 {
		t.Errorf("Jitter(100, 0) = %d, Drawn = %d", got, d.Drawn())
	}
}
