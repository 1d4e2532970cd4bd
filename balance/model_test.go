package balance_test

import (
	"cmp"
	"hash/fnv"
	"math/big"
	"slices"
	"strconv"
	"testing"

	"barbican/api"
	"barbican/balance"
	"barbican/dice"
)

// What the chapter says, told another way: the hosts are written down in the order in which the policy would have them, and the first that is open is taken.

// model is a balancer.
type model struct {
	policy int
	hosts  []string
	turn   []int // the order of RoundRobin
	draws  *dice.Dice
}

// newModel makes one.
func newModel(policy int, hosts []string, seed int) *model {
	m := &model{policy: policy, hosts: slices.Clone(hosts), draws: dice.New(seed)}
	for i := range hosts {
		m.turn = append(m.turn, i)
	}
	return m
}

// opened tells whether a host is open.
func opened(open []bool, host int) bool {
	return len(open) > host && open[host]
}

// pick is the host that is taken.
func (m *model) pick(open []bool, loads []int, key string) int {
	order := slices.Clone(m.turn)
	shut := func(host int) bool { return !opened(open, host) }
	switch m.policy {
	case 2:
		order = byLoad(len(m.hosts), loads)
	case 3:
		slices.Sort(order)
		order = slices.DeleteFunc(order, shut)
		if len(order) > 0 {
			order = order[drawn(m.draws, len(order)):]
		}
	case 4:
		order = along(ring(m.hosts), place(key))
	}
	order = slices.DeleteFunc(order, shut)
	if len(order) == 0 {
		return -1
	}
	if m.policy == 1 {
		i := slices.Index(m.turn, order[0])
		m.turn = append(slices.Clone(m.turn[i+1:]), m.turn[:i+1]...)
	}
	return order[0]
}

// byLoad are the hosts from the least load to the greatest.
func byLoad(hosts int, loads []int) []int {
	all := make([]int, hosts)
	copy(all, loads)
	var order []int
	for i := range all {
		order = append(order, i)
	}
	slices.SortStableFunc(order, func(i, j int) int { return cmp.Compare(all[i], all[j]) })
	return order
}

// drawn is a number below n: the highest 64 bits of the product with a draw.
func drawn(d *dice.Dice, n int) int {
	product := new(big.Int).SetUint64(d.Next())
	product.Mul(product, big.NewInt(int64(n)))
	return int(product.Rsh(product, 64).Int64())
}

// spot is a point on the ring, k that of a host's points.
type spot struct {
	at      uint64
	host, k int
}

// place is where a key lies.
func place(key string) uint64 {
	return dice.Mix(sum(key))
}

// sum is a text's hash by the library.
func sum(text string) uint64 {
	h := fnv.New64a()
	h.Write([]byte(text))
	return h.Sum64()
}

// ring are the points of the hosts, rising; of one point that of the smallest number is ahead.
func ring(hosts []string) []spot {
	var all []spot
	for i, text := range hosts {
		at := sum(text)
		for k := range 16 {
			all = append(all, spot{dice.Mix(at), i, k})
			at += 0x9e3779b97f4a7c15
		}
	}
	slices.SortFunc(all, func(a, b spot) int { return cmp.Or(cmp.Compare(a.at, b.at), cmp.Compare(a.host, b.host)) })
	return all
}

// along are the hosts of the points at or above a place, and then of those below it.
func along(points []spot, from uint64) []int {
	var ahead, rest []int
	for _, p := range points {
		if p.at >= from {
			ahead = append(ahead, p.host)
		} else {
			rest = append(rest, p.host)
		}
	}
	return append(ahead, rest...)
}

// pair is a balancer with its model.
type pair struct {
	t    *testing.T
	b    *balance.Balancer
	m    *model
	told string
}

// both makes a balancer and its model, of hosts in memory that is written over.
func both(t *testing.T, policy int, seed int, hosts ...string) *pair {
	t.Helper()
	given := append(slices.Clone(hosts), "spare")
	b := balance.New(policy, given[:len(hosts)], seed)
	if b == nil {
		t.Fatalf("New(%d, %q, %d) is no balancer", policy, hosts, seed)
	}
	if !slices.Equal(given, append(slices.Clone(hosts), "spare")) {
		t.Fatalf("New(%d, %q, %d) changed its hosts to %q", policy, hosts, seed, given)
	}
	for i := range given {
		given[i] = "gone:1"
	}
	return &pair{t: t, b: b, m: newModel(policy, hosts, seed), told: strconv.Itoa(policy) + " over " + strconv.Itoa(len(hosts))}
}

// ask picks a host of the balancer, from lists with spare room behind them.
func (p *pair) ask(open []bool, loads []int, key string) int {
	p.t.Helper()
	o, l := append(slices.Clone(open), true, false), append(slices.Clone(loads), -7, 7)
	keptO, keptL := slices.Clone(o), slices.Clone(l)
	got := p.b.Pick(o[:len(open)], l[:len(loads)], key)
	if !slices.Equal(o, keptO) || !slices.Equal(l, keptL) {
		p.t.Fatalf("%s: Pick(%v, %v, %q) changed what it was given to %v, %v", p.told, open, loads, key, o, l)
	}
	return got
}

// check holds one Pick against the model, and answers it.
func (p *pair) check(open []bool, loads []int, key string) int {
	p.t.Helper()
	got, want := p.ask(open, loads, key), p.m.pick(open, loads, key)
	if got != want {
		p.t.Fatalf("%s: Pick(%v, %v, %q) = %d, the model's %d", p.told, open, loads, key, got, want)
	}
	return got
}

// want wants one Pick to be a number, and the model's.
func (p *pair) want(number int, open []bool, loads []int, key string) {
	p.t.Helper()
	if got := p.check(open, loads, key); got != number {
		p.t.Errorf("%s: Pick(%v, %v, %q) = %d, not %d", p.told, open, loads, key, got, number)
	}
}

// policies are the four.
var policies = []int{api.RoundRobin, api.LeastBusy, api.Random, api.Ring}

// named are so many hosts.
func named(n int) []string {
	var hosts []string
	for i := range n {
		hosts = append(hosts, "h"+strconv.Itoa(i)+":80")
	}
	return hosts
}

// all is a list that opens so many.
func all(n int) []bool {
	return slices.Repeat([]bool{true}, n)
}

// marks is a list by letters: o is open, any other closed.
func marks(text string) []bool {
	var open []bool
	for i := range len(text) {
		open = append(open, text[i] == 'o')
	}
	return open
}

// masks are all lists of so many items.
func masks(n int) [][]bool {
	if n == 0 {
		return [][]bool{nil}
	}
	var list [][]bool
	for _, m := range masks(n - 1) {
		list = append(list, append(slices.Clone(m), false), append(slices.Clone(m), true))
	}
	return list
}

// loadings are all lists of at most so many of these loads.
func loadings(most int, of ...int) [][]int {
	list := [][]int{nil}
	for i := 0; i < len(list); i++ {
		if len(list[i]) < most {
			for _, n := range of {
				list = append(list, append(slices.Clone(list[i]), n))
			}
		}
	}
	return list
}
