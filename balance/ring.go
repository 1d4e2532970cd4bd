package balance

import (
	"math"

	"barbican/dice"
)

const (
	// points is how many a host has on the ring.
	points = 16
	// step is odd, so all points of one host lie apart.
	step = 0x9e3779b97f4a7c15
)

// nearest is the first of the hosts with the nearest point on the ring, from the key's place on.
func (b *Balancer) nearest(hosts []int, key string) int {
	place := dice.Mix(dice.Hash(key))
	taken, least := hosts[0], away(place, b.hashes[hosts[0]])
	for _, host := range hosts[1:] {
		if far := away(place, b.hashes[host]); far < least {
			taken, least = host, far
		}
	}
	return taken
}

// away is how far it is from a place to the nearest point of the host with that hash.
func away(place uint64, hash uint64) uint64 {
	least := uint64(math.MaxUint64)
	for k := range uint64(points) {
		// The difference wraps round, so that points below the place are farther than all above it: there the ring begins anew.
		least = min(least, dice.Mix(hash+k*step)-place)
	}
	return least
}
