package balance_test

import (
	"slices"
	"strconv"
	"testing"

	"barbican/api"
	"barbican/balance"
)

// three are hosts whose points were reckoned apart from the program.
var three = []string{"a:80", "b:80", "c:80"}

// Keys that were reckoned so, too: with all open, with the first, the second, the third one closed.
func TestRingKnown(t *testing.T) {
	for _, x := range []struct {
		key  string
		want [4]int
	}{
		{"", [4]int{0, 2, 0, 0}}, {"a", [4]int{1, 1, 2, 1}}, {"h/", [4]int{2, 2, 2, 0}}, {"h/a", [4]int{2, 2, 2, 0}}, {"ex.com/index", [4]int{0, 1, 0, 0}},
		{"a:80", [4]int{0, 2, 0, 0}}, {"b:80", [4]int{1, 1, 0, 1}}, {"c:80", [4]int{2, 2, 2, 1}}, {"\xff\x00", [4]int{1, 1, 2, 1}},
	} {
		p := both(t, api.Ring, 0, three...)
		for i, open := range []string{"ooo", "-oo", "o-o", "oo-"} {
			p.want(x.want[i], marks(open), nil, x.key)
		}
	}
}

// For each of the hosts' points one of the keys k0, k1, .. that goes to it, reckoned so, too.
func TestRingPoints(t *testing.T) {
	for host, keys := range [][16]int{
		{72, 74, 13, 36, 140, 278, 114, 63, 21, 11, 569, 42, 12, 614, 38, 49},
		{329, 5, 371, 31, 16, 479, 70, 23, 142, 89, 1, 2559, 29, 165, 22, 4},
		{395, 7, 10, 397, 201, 64, 14, 3, 497, 48, 215, 39, 0, 1516, 43, 9},
	} {
		for k, n := range keys {
			p := both(t, api.Ring, 0, three...)
			key := "k" + strconv.Itoa(n)
			p.want(host, all(3), nil, key)
			// The key is one whose point is that one, as the test means.
			points := ring(three)
			i := slices.IndexFunc(points, func(s spot) bool { return s.at >= place(key) })
			if s := points[max(i, 0)]; s.host != host || s.k != k {
				t.Errorf("%s goes to the point %d of %d, not %d of %d", key, s.k, s.host, k, host)
			}
			for _, open := range masks(3) {
				p.check(open, nil, key)
			}
		}
	}
}

// A key above the greatest point goes to the least, as one below all does. The least is c:80's, without it b:80's.
func TestRingGoesRound(t *testing.T) {
	p := both(t, api.Ring, 0, three...)
	points := ring(three)
	least, greatest := points[0].at, points[len(points)-1].at
	below, above := 0, 0
	for n := range 3000 {
		key := "k" + strconv.Itoa(n)
		switch at := place(key); {
		case at < least:
			below++
			p.want(2, all(3), nil, key)
			p.want(1, marks("oo-"), nil, key)
			p.want(0, marks("o--"), nil, key)
		case at > greatest:
			above++
			p.want(2, all(3), nil, key)
			p.want(1, marks("oo-"), nil, key)
			p.want(0, marks("o--"), nil, key)
		}
	}
	if below == 0 || above == 0 {
		t.Errorf("%d keys below all points, %d above all", below, above)
	}
}

// The ring's end and beginning are those of the open hosts.
func TestRingClosedAtTheEnd(t *testing.T) {
	p := both(t, api.Ring, 0, three...)
	points := ring(three)
	for shut := range 3 {
		open := all(3)
		open[shut] = false
		left := slices.DeleteFunc(slices.Clone(points), func(s spot) bool { return s.host == shut })
		first, last := left[0], left[len(left)-1]
		seen := 0
		for n := range 3000 {
			key := "k" + strconv.Itoa(n)
			if place(key) > last.at {
				seen++
				p.want(first.host, open, nil, key)
			}
		}
		if seen == 0 {
			t.Errorf("no key above the points without %d", shut)
		}
	}
}

// A key that lies on a point goes to it: a host's own text lies on the first of its points.
func TestRingOnAPoint(t *testing.T) {
	for _, n := range []int{1, 2, 3, 16} {
		hosts := named(n)
		p := both(t, api.Ring, 0, hosts...)
		for i, text := range hosts {
			p.want(i, all(n), nil, text)
		}
	}
	both(t, api.Ring, 0, "", "a:80").want(0, all(2), nil, "")
	both(t, api.Ring, 0, "a:80", "").want(1, all(2), nil, "")
}

// Of hosts with one text the one with the smallest number that is open is taken.
func TestRingSameText(t *testing.T) {
	same := both(t, api.Ring, 0, "a:80", "a:80", "b:80", "a:80", "b:80")
	plain := both(t, api.Ring, 0, "a:80", "b:80")
	for n := range 500 {
		key := "k" + strconv.Itoa(n)
		who := plain.check(all(2), nil, key)
		same.want([]int{0, 2}[who], all(5), nil, key)
		same.want([]int{1, 2}[who], marks("-oooo"), nil, key)
		same.want([]int{3, 2}[who], marks("--ooo"), nil, key)
		same.want([]int{3, 4}[who], marks("---oo"), nil, key)
		same.want([]int{0, 4}[who], marks("oo-oo"), nil, key)
		same.want(3, marks("---o-"), nil, key)
	}
}

// Two texts whose hashes are one step apart: the points from the second on of the one are those up to the last but one of the other.
const (
	stepBelow = "145a87187096a2eb:80"
	stepAbove = "142b9bffa85caa7b:80"
)

// Of one point the host with the smallest number, whichever of its points that is.
func TestRingSharedPoints(t *testing.T) {
	if sum(stepAbove)-sum(stepBelow) != 0x9e3779b97f4a7c15 {
		t.Fatal("the texts are no step apart")
	}
	for _, hosts := range [][]string{{stepBelow, stepAbove}, {stepAbove, stepBelow}} {
		p := both(t, api.Ring, 0, hosts...)
		taken := [2]int{}
		for n := range 2000 {
			taken[p.check(all(2), nil, "k"+strconv.Itoa(n))]++
		}
		// The host 1 has just one point to itself.
		if taken[0] == 0 || taken[1] == 0 || taken[1] > 800 {
			t.Errorf("over %q: %v", hosts, taken)
		}
		for n := range 200 {
			p.check(marks("-o"), nil, "k"+strconv.Itoa(n))
			p.check(marks("o-"), nil, "k"+strconv.Itoa(n))
		}
	}
}

// Two texts whose first points are one apart.
const (
	pointBelow = "58942d9a980f3e7d:80"
	pointAbove = "c76cefb1a008e2bc:80"
)

// Points are told apart by all their bits.
func TestRingNearPoints(t *testing.T) {
	if place(pointAbove)-place(pointBelow) != 1 {
		t.Fatal("the points aren't one apart")
	}
	p, q := both(t, api.Ring, 0, pointBelow, pointAbove), both(t, api.Ring, 0, pointAbove, pointBelow)
	p.want(0, all(2), nil, pointBelow)
	p.want(1, all(2), nil, pointAbove)
	q.want(1, all(2), nil, pointBelow)
	q.want(0, all(2), nil, pointAbove)
	// Keys from somewhat below go to the lower point, too.
	points := ring([]string{pointBelow, pointAbove})
	i := slices.IndexFunc(points, func(s spot) bool { return s.at == place(pointBelow) })
	from := points[(i+len(points)-1)%len(points)].at
	seen := 0
	for n := range 1000 {
		if key := "k" + strconv.Itoa(n); place(key)-from-1 < place(pointBelow)-from {
			seen++
			p.want(0, all(2), nil, key)
			q.want(1, all(2), nil, key)
		}
	}
	if seen == 0 {
		t.Error("no key below the two points")
	}
}

// A host that is closed takes no key of another's with it, whatever the hosts' order.
func TestRingKeepsKeys(t *testing.T) {
	hosts := named(6)
	turned := slices.Clone(hosts)
	slices.Reverse(turned)
	p, q := both(t, api.Ring, 0, hosts...), both(t, api.Ring, 9, turned...)
	moved := 0
	for n := range 600 {
		key := "ex.com/" + strconv.Itoa(n)
		who := p.check(all(6), nil, key)
		q.want(5-who, all(6), nil, key)
		for shut := range 6 {
			open := all(6)
			open[shut] = false
			if got := p.check(open, nil, key); shut == who {
				moved++
			} else if got != who {
				t.Errorf("%s went from %d to %d when %d was closed", key, who, got, shut)
			}
		}
	}
	if moved != 600 {
		t.Errorf("%d keys moved", moved)
	}
}

// One host alone has all keys; each key is a text of its own, byte by byte.
func TestRingKeys(t *testing.T) {
	one := balance.New(api.Ring, named(1), 0)
	p := both(t, api.Ring, 0, named(16)...)
	taken := map[int]bool{}
	for b := range 256 {
		for _, key := range []string{string([]byte{byte(b)}), string([]byte{'k', byte(b)}), string([]byte{byte(b), 0}), string(rune(b))} {
			if got := one.Pick(all(1), nil, key); got != 0 {
				t.Errorf("%q: %d", key, got)
			}
			taken[p.check(all(16), nil, key)] = true
		}
	}
	if len(taken) != 16 {
		t.Errorf("%d hosts of 16 were taken", len(taken))
	}
}
