// Package dice is layer 1: see shared/doc/01-dice.md.
package dice

import "math/bits"

const (
	// step is odd, so a dice goes through all 2^64 states before one comes back.
	step = 0x9e3779b97f4a7c15

	firstFactor  = 0xbf58476d1ce4e5b9
	secondFactor = 0x94d049bb133111eb

	hashBasis = 0xcbf29ce484222325
	hashPrime = 0x100000001b3
)

// mostBase is the greatest base that Jitter changes: base times percent stays far below 63 bits.
const mostBase = 1 << 40

// Mix stirs a number.
func Mix(x uint64) uint64 {
	x = (x ^ x>>30) * firstFactor
	x = (x ^ x>>27) * secondFactor
	return x ^ x>>31
}

// Hash is a text's hash.
func Hash(s string) uint64 {
	h := uint64(hashBasis)
	// By places, not by a range over s: that would give runes, and a text is bytes.
	for i := range len(s) {
		h = (h ^ uint64(s[i])) * hashPrime
	}
	return h
}

// Dice is a generator.
type Dice struct {
	state uint64
	drawn int
}

// New makes a generator.
func New(seed int) *Dice {
	return &Dice{state: uint64(seed)}
}

// Next draws a number.
func (d *Dice) Next() uint64 {
	d.state += step
	d.drawn++
	return Mix(d.state)
}

// Below draws a number below n.
func (d *Dice) Below(n int) int {
	if n < 1 {
		return 0
	}
	// The high half of the product is below n, which a remainder would be too, but with a bias to small numbers.
	high, _ := bits.Mul64(d.Next(), uint64(n))
	return int(high)
}

// Jitter takes some percent off at random.
func (d *Dice) Jitter(base int, percent int) int {
	if base < 1 || base > mostBase || percent < 1 || percent > 100 {
		return base
	}
	width := base * percent / 100
	return base - d.Below(width+1)
}

// Drawn tells how many draws were made.
func (d *Dice) Drawn() int {
	return d.drawn
}
