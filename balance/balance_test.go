package balance_test

import (
	"math"
	"slices"
	"strconv"
	"sync"
	"testing"

	"barbican/api"
	"barbican/balance"
	"barbican/config"
	"barbican/dice"
)

// The chapter's examples.
func TestExamples(t *testing.T) {
	p := both(t, api.RoundRobin, 0, named(3)...)
	for _, n := range []int{0, 1, 2, 0} {
		p.want(n, marks("ooo"), nil, "")
	}
	p.want(2, marks("o-o"), nil, "")
	p.want(0, marks("o-o"), nil, "")
	both(t, api.LeastBusy, 0, named(3)...).want(1, marks("ooo"), []int{2, 1, 1}, "")
}

// RoundRobin: from none at first, behind the last taken, going round.
func TestRoundRobin(t *testing.T) {
	p := both(t, api.RoundRobin, 0, named(4)...)
	for _, x := range []struct {
		open string
		want int
	}{
		{"---o", 3}, {"oooo", 0}, {"oooo", 1}, {"oo--", 0}, {"-o--", 1}, {"-o--", 1}, {"oo--", 0}, {"o--o", 3}, {"o--o", 0}, {"--oo", 2},
		// When none is taken the last one is still the last taken.
		{"----", -1}, {"", -1}, {"oooo", 3}, {"----", -1}, {"---o", 3}, {"oooo", 0},
		// Missing items are closed ones, and those behind the last host aren't looked at.
		{"oo", 1}, {"oo", 0}, {"o", 0}, {"----ooo", -1}, {"o---ooo", 0}, {"-o--ooo", 1}, {"ooooooo", 2}, {"ooooooo", 3}, {"ooooooo", 0},
	} {
		p.want(x.want, marks(x.open), nil, "")
	}
	// At first none was taken, also if none could be.
	p = both(t, api.RoundRobin, 0, named(2)...)
	p.want(-1, marks("--"), nil, "")
	p.want(-1, nil, nil, "")
	p.want(0, marks("oo"), nil, "")
}

// All ways through four picks over three hosts, and through two over four.
func TestRoundRobinAll(t *testing.T) {
	threes, fours := masks(3), masks(4)
	for way := range 8 * 8 * 8 * 8 {
		p := both(t, api.RoundRobin, 0, named(3)...)
		for rest, i := way, 0; i < 4; rest, i = rest/8, i+1 {
			p.check(threes[rest%8], nil, "")
		}
	}
	for _, first := range fours {
		for _, second := range fours {
			p := both(t, api.RoundRobin, 0, named(4)...)
			p.check(first, nil, "")
			p.check(second, nil, "")
			p.check(first, nil, "")
		}
	}
}

// LeastBusy: of the open ones alone, the least load, of the same load the smallest number.
func TestLeastBusy(t *testing.T) {
	for _, x := range []struct {
		open  string
		loads []int
		want  int
	}{
		{"ooo", []int{0, 0, 0}, 0}, {"ooo", []int{3, 2, 1}, 2}, {"ooo", []int{1, 2, 1}, 0}, {"-oo", []int{0, 5, 5}, 1}, {"-oo", []int{0, 5, 4}, 2}, {"o--", []int{9, 0, 0}, 0},
		// A load that is missing is 0.
		{"ooo", nil, 0}, {"ooo", []int{1}, 1}, {"ooo", []int{1, 1}, 2}, {"ooo", []int{0, 0}, 0}, {"ooo", []int{1, -1}, 1}, {"o-o", []int{1, 0}, 2}, {"oo-", []int{1, 1}, 0},
		{"ooo", []int{-1}, 0}, {"ooo", []int{2, -3}, 1}, {"-oo", []int{-1}, 1},
		// The least and the greatest numbers.
		{"ooo", []int{math.MaxInt, math.MaxInt, math.MaxInt}, 0}, {"ooo", []int{math.MaxInt, math.MaxInt, math.MaxInt - 1}, 2}, {"ooo", []int{math.MaxInt, math.MinInt, math.MinInt}, 1},
		{"ooo", []int{0, math.MinInt, -1}, 1}, {"-oo", []int{0, math.MaxInt, math.MinInt}, 2}, {"--o", []int{0, 0, math.MaxInt}, 2}, {"oo", []int{math.MinInt + 1, math.MinInt}, 1},
		// Items behind the last host.
		{"oooo", []int{1, 1, 1, 0}, 0}, {"---o", []int{1, 1, 1, 0}, -1}, {"ooooo", []int{2, 1, 1, -5, -9}, 1}, {"-o-oo", []int{0, 8, 0, 0}, 1},
		{"---", []int{1, 2, 3}, -1}, {"", []int{1, 2, 3}, -1}, {"o", []int{9, 0, 0}, 0}, {"-o", []int{9, 9, 0}, 1},
	} {
		p := both(t, api.LeastBusy, 0, named(3)...)
		p.want(x.want, marks(x.open), x.loads, "")
		// Nothing is remembered.
		p.want(x.want, marks(x.open), x.loads, "")
	}
}

// All lists of up to four items over three hosts.
func TestLeastBusyAll(t *testing.T) {
	p := both(t, api.LeastBusy, 0, named(3)...)
	for _, loads := range loadings(4, -1, 0, 1, 2) {
		for n := range 5 {
			for _, open := range masks(n) {
				p.check(open, loads, "")
			}
		}
	}
}

// Random: one Below of how many are open for each host that is taken.
func TestRandom(t *testing.T) {
	for _, seed := range []int{0, 1, 7, -1, math.MaxInt, math.MinInt} {
		b, d := balance.New(api.Random, named(5), seed), dice.New(seed)
		for range 50 {
			if got, want := b.Pick(all(5), nil, ""), d.Below(5); got != want {
				t.Fatalf("seed %d, all open: %d, not %d", seed, got, want)
			}
			if got, want := b.Pick(marks("-o-oo"), nil, ""), []int{1, 3, 4}[d.Below(3)]; got != want {
				t.Fatalf("seed %d, three open: %d, not %d", seed, got, want)
			}
			// Also of one there is a draw.
			if got, want := b.Pick(marks("---o-"), nil, ""), 3+d.Below(1); got != want {
				t.Fatalf("seed %d, one open: %d, not %d", seed, got, want)
			}
			// Of none there isn't.
			for _, open := range []string{"", "-----", "-", "-----ooo"} {
				if got := b.Pick(marks(open), nil, ""); got != -1 {
					t.Fatalf("seed %d, %q: %d, not -1", seed, open, got)
				}
			}
			if got, want := b.Pick(marks("oo"), nil, ""), d.Below(2); got != want {
				t.Fatalf("seed %d, two items: %d, not %d", seed, got, want)
			}
			if got, want := b.Pick(marks("o-o-ooooo"), nil, ""), []int{0, 2, 4}[d.Below(3)]; got != want {
				t.Fatalf("seed %d, nine items: %d, not %d", seed, got, want)
			}
		}
	}
}

// The first picks of the seed 0, reckoned from its known draws.
func TestRandomKnown(t *testing.T) {
	// 0xe220a8397b1dcdaf, 0x6e789e6aa1b965f4, 0x06c45d188009454f, 0xf88bb8a8724c81ec, 0x1b39896a51a8749b, in sixteenths of 2^64.
	b := balance.New(api.Random, named(16), 0)
	for i, want := range []int{14, 6, 0, 15, 1} {
		if got := b.Pick(all(16), nil, ""); got != want {
			t.Errorf("pick %d: %d, not %d", i, got, want)
		}
	}
	b = balance.New(api.Random, named(9), 0)
	for i, want := range []int{7, 3, 1, 7, 1} {
		if got := b.Pick(marks("-o-o---o-"), nil, ""); got != want {
			t.Errorf("pick %d of three: %d, not %d", i, got, want)
		}
	}
}

// All lists for hosts of any number, by each policy.
func TestSmall(t *testing.T) {
	for _, policy := range policies {
		for hosts := range 5 {
			p := both(t, policy, 3, named(hosts)...)
			for n := range 6 {
				for i, open := range masks(n) {
					p.check(open, []int{i % 3, 1, i % 2}, "k"+strconv.Itoa(i))
				}
			}
		}
	}
}

// Without a host there is none to take.
func TestNoHosts(t *testing.T) {
	for _, policy := range policies {
		for _, hosts := range [][]string{nil, {}} {
			b := balance.New(policy, hosts, 1)
			for _, open := range [][]bool{nil, {}, {true}, {false, true}, all(20)} {
				if got := b.Pick(open, []int{1, 2}, "k"); got != -1 {
					t.Errorf("policy %d over nothing, open %v: %d", policy, open, got)
				}
			}
		}
	}
}

// What a policy doesn't go by changes nothing.
func TestOthersDontCount(t *testing.T) {
	hosts := named(6)
	for _, policy := range policies {
		otherHosts, otherSeed := []string{"", "", "x", "x", "y", "h0:80"}, 5
		if policy == api.Random {
			otherSeed = 4
		}
		if policy == api.Ring {
			otherHosts = hosts
		}
		plain, other := balance.New(policy, hosts, 4), balance.New(policy, otherHosts, otherSeed)
		for i := range 200 {
			open := masks(6)[i%64]
			loads, key := []int{i % 5, 2, 2, i % 3, 1, 0}, "k"+strconv.Itoa(i)
			otherLoads, otherKey := []int{9, i, -i, 3}, "other"
			if policy == api.LeastBusy {
				otherLoads = loads
			}
			if policy == api.Ring {
				otherKey = key
			}
			if got, want := other.Pick(open, otherLoads, otherKey), plain.Pick(open, loads, key); got != want {
				t.Fatalf("policy %d, pick %d: %d, not %d", policy, i, got, want)
			}
		}
	}
}

// LeastBusy and Ring answer the same however often they are asked, and whatever between.
func TestNothingRemembered(t *testing.T) {
	for _, policy := range []int{api.LeastBusy, api.Ring} {
		p := both(t, policy, 2, named(5)...)
		want := p.check(all(5), []int{4, 3, 2, 3, 2}, "key")
		for i, open := range masks(5) {
			p.check(open, []int{i % 2, i % 3, 0}, "k"+strconv.Itoa(i))
			p.want(want, all(5), []int{4, 3, 2, 3, 2}, "key")
		}
	}
}

// Each balancer has a memory of its own.
func TestApart(t *testing.T) {
	for _, policy := range policies {
		var list []*pair
		for range 3 {
			list = append(list, both(t, policy, 9, named(7)...))
		}
		for i := range 300 {
			list[i*i%3].check(all(7), []int{i % 4, i % 3, i % 2}, strconv.Itoa(i))
		}
	}
}

// Balancers of their own can be used at once.
func TestAtOnce(t *testing.T) {
	var group sync.WaitGroup
	answers := make([][]int, 4)
	for i := range answers {
		group.Go(func() {
			for _, policy := range policies {
				b := balance.New(policy, named(8), 6)
				for n := range 500 {
					answers[i] = append(answers[i], b.Pick(all(8), []int{n % 7, n % 5, n % 3}, strconv.Itoa(n)))
				}
			}
		})
	}
	group.Wait()
	for _, a := range answers {
		if !slices.Equal(a, answers[0]) {
			t.Error("balancers of the same kind that were used at once differ")
		}
	}
}

// Of a policy that isn't one of the four nothing is promised but that a call ends, without a panic and with no host that isn't open.
func TestNoPolicy(t *testing.T) {
	for _, policy := range []int{0, -1, 5, 6, math.MinInt, math.MaxInt} {
		for _, hosts := range [][]string{nil, named(1), named(3)} {
			b := balance.New(policy, hosts, 1)
			for _, open := range [][]bool{nil, {true}, marks("-o"), marks("ooooo")} {
				if got := b.Pick(open, []int{1}, "k"); got != -1 && (got < 0 || got >= len(hosts) || !opened(open, got)) {
					t.Errorf("policy %d over %q, open %v: %d", policy, hosts, open, got)
				}
			}
		}
	}
}

// More hosts than a cluster may have, with texts of all kinds.
func TestManyHosts(t *testing.T) {
	d := dice.New(12)
	for _, policy := range policies {
		for _, n := range []int{1, 15, 16, 17, 64, 300} {
			hosts := named(n)
			hosts[n/2], hosts[n/3] = "", "\xff\x00 \n"
			p := both(t, policy, n, hosts...)
			for range 40 {
				open, loads := make([]bool, d.Below(2*n)), make([]int, d.Below(2*n))
				for i := range open {
					open[i] = d.Below(4) > 0
				}
				for i := range loads {
					loads[i] = d.Below(5) - 1
				}
				p.check(open, loads, "\x80"+strconv.Itoa(d.Below(1000)))
			}
		}
	}
}

// Clusters of a right config, with hosts, states and loads by chance.
func TestByChance(t *testing.T) {
	d := dice.New(77)
	for round := range 600 {
		c := api.Cluster{Name: "c", Policy: policies[round%4], Conns: 1, Try: 1, Fails: 1, Eject: 1}
		for i := range 1 + d.Below(16) {
			c.Hosts = append(c.Hosts, "s"+strconv.Itoa(i)+"."+string(rune('a'+d.Below(26)))+":"+strconv.Itoa(1+d.Below(65535)))
		}
		whole := api.Config{Conns: 1, Idle: 1, Grace: 1, Clusters: []api.Cluster{c}}
		if e := config.Check(whole); e != api.OK {
			t.Fatalf("the cluster %v: %d", c, e)
		}
		p := both(t, c.Policy, int(d.Next()), c.Hosts...)
		for range 60 {
			open, loads := make([]bool, len(c.Hosts)), make([]int, len(c.Hosts))
			chance := d.Below(5)
			for i := range open {
				open[i] = d.Below(4) < chance
				loads[i] = d.Below(4)
			}
			p.check(open, loads, "ex.com/"+strconv.Itoa(d.Below(500)))
		}
	}
}
