package filter_test

import (
	"math"
	"testing"

	"barbican/api"
	"barbican/dice"
)

// The chapter's examples.
func TestExamples(t *testing.T) {
	p := both(t, 0, tokens("X-K", "s"), sets("X-A", "1"), answers("Server", "b"))
	p.pass(get("X-K: s"), "X-A: 1")
	p.stop(get(), 401, "no entry", "WWW-Authenticate: Token")
	p.back(nil, "Server: b")
}

// A chain of no filters lets all pass.
func TestNoFilters(t *testing.T) {
	for _, none := range [][]api.Filter{nil, {}} {
		p := both(t, 7, none...)
		p.pass(get())
		p.pass(get("A: 1", "a: 2", "B: ", "Host: h"), "A: 1", "a: 2", "B: ", "Host: h")
		p.pass(query{method: "OPTIONS", fields: preflight(0).fields, size: math.MaxInt}, "Origin: o", "Access-Control-Request-Method: PUT")
		p.back(nil)
		p.back(list("A: 1", "a: 2", "Server: b"), "A: 1", "a: 2", "Server: b")
	}
}

// FilterSet: the fields of the name, in any case, give way to one at the end.
func TestSet(t *testing.T) {
	p := both(t, 0, sets("X-A", "1"))
	p.pass(get(), "X-A: 1")
	p.pass(get("B: 2"), "B: 2", "X-A: 1")
	p.pass(get("X-A: 1", "B: 2"), "B: 2", "X-A: 1")
	p.pass(get("x-a: 2", "B: 2", "X-a: 3", "X-A: 1", "C: "), "B: 2", "C: ", "X-A: 1")
	p.pass(get("X-AA: 2", "X: 3", "-A: 4", ": 5", "X_A: 6"), "X-AA: 2", "X: 3", "-A: 4", ": 5", "X_A: 6", "X-A: 1")
	both(t, 0, sets("x-a", "")).pass(get("X-A: 1"), "x-a: ")
	both(t, 0, sets("A", "b, c \xff")).pass(get(), "A: b, c \xff")
	p.back(list("X-A: 2", "B: 2"), "X-A: 2", "B: 2")
}

// FilterDrop: the fields of the name, in any case, are left out.
func TestDrop(t *testing.T) {
	p := both(t, 0, drops("X-A"))
	p.pass(get())
	p.pass(get("B: 2"), "B: 2")
	p.pass(get("X-A: 1"))
	p.pass(get("x-a: 2", "B: 2", "X-a: 3", "C: ", "X-A: "), "B: 2", "C: ")
	p.pass(get("X-AA: 2", "X: 3", "-A: 4", ": 5"), "X-AA: 2", "X: 3", "-A: 4", ": 5")
	p.back(list("X-A: 2", "B: 2"), "X-A: 2", "B: 2")
}

// limited wants so many requests at that time to go on, and the next ones not to.
func limited(p *pair, now int, passing int) {
	p.t.Helper()
	for range passing {
		p.pass(at(now))
	}
	p.stop(at(now), 429, "slow down")
	p.stop(at(now), 429, "slow down")
}

// FilterLimit: N tokens at most, full at the time 0; M more at each K ticks since the time 0.
func TestLimit(t *testing.T) {
	p := both(t, 0, limits(4, 2, 10))
	limited(p, 0, 4)
	limited(p, 9, 0)
	limited(p, 10, 2)
	limited(p, 19, 0)
	limited(p, 20, 2)
	limited(p, 45, 4)
	limited(p, 49, 0)
	limited(p, 50, 2)
	// Four fillings bring eight, of which four stay.
	limited(p, 90, 4)
	p.pass(at(100))
	// One is left, and one filling brings two more.
	limited(p, 110, 3)
	limited(p, 1<<40, 4)

	// The first request is late: the bucket was full at 0, and its fillings go by that.
	p = both(t, 0, limits(1, 1, 10))
	limited(p, 25, 1)
	limited(p, 29, 0)
	limited(p, 30, 1)

	// A filling that brings more than there may be.
	p = both(t, 0, limits(3, 5, 7))
	p.pass(at(6))
	p.pass(at(6))
	limited(p, 7, 3)
	limited(p, 13, 0)
	limited(p, 14, 3)

	p = both(t, 0, limits(1, 1, 1))
	for now := range 50 {
		limited(p, now, 1)
	}
	limited(p, 1<<40, 1)
}

// A FilterLimit with the greatest numbers.
func TestLimitsAtTheirEnds(t *testing.T) {
	p := both(t, 0, limits(1<<30, 1<<30, 1<<30))
	for _, now := range []int{0, 1, 1<<30 - 1, 1 << 30, 1<<40 - 1, 1 << 40} {
		p.pass(at(now))
		p.pass(at(now))
	}
	p = both(t, 0, limits(1, 1<<30, 1<<30))
	limited(p, 0, 1)
	limited(p, 1<<30-1, 0)
	limited(p, 1<<30, 1)
	limited(p, 1<<31-1, 0)
	limited(p, 1<<31, 1)
	limited(p, 1<<40-1, 1)
	limited(p, 1<<40, 1)
	p = both(t, 0, limits(2, 1, 1<<30))
	limited(p, 1<<40, 2)
	p = both(t, 0, limits(2, 1, 1))
	limited(p, 1<<40-1, 2)
	limited(p, 1<<40, 1)
}

// A FilterLimit takes one token of each request that comes to it, whatever the request is and becomes of it.
func TestLimitOfAnyRequest(t *testing.T) {
	p := both(t, 0, limits(5, 1, 100), bodies(0))
	p.stop(query{method: "PUT", size: 1}, 413, "too much")
	p.stop(query{now: 3, size: 9, fields: list("A: 1")}, 413, "too much")
	p.pass(query{now: 3, method: "OPTIONS"})
	p.pass(query{now: 4, method: "", fields: list("A: 1", "A: 2"), size: -1}, "A: 1", "A: 2")
	p.pass(query{now: 4, method: "GET"})
	p.stop(query{now: 4, method: "GET", size: 9}, 429, "slow down")
	p.back(list("A: 1"), "A: 1")
	p.stop(at(99), 429, "slow down")
}

// Each FilterLimit has a bucket of its own, of which a request that doesn't come so far takes nothing.
func TestSeveralLimits(t *testing.T) {
	p := both(t, 0, limits(2, 2, 10), limits(3, 1, 100))
	limited(p, 0, 2)
	// Of the second bucket there is one token left.
	limited(p, 10, 1)
	// Those that the second one refused took a token of the first.
	limited(p, 19, 0)
	limited(p, 100, 1)
	p = both(t, 0, limits(1, 1, 5), limits(1, 1, 5))
	limited(p, 0, 1)
	limited(p, 5, 1)
	p = both(t, 0, tokens("K", "s"), limits(1, 1, 5))
	p.stop(get(), 401, "no entry", "WWW-Authenticate: Token")
	p.stop(get("K: t"), 401, "no entry", "WWW-Authenticate: Token")
	p.pass(get("K: s"))
	p.stop(get("K: s"), 429, "slow down")
}

// FilterToken: just one field of the name, with just the value.
func TestToken(t *testing.T) {
	p := both(t, 0, tokens("X-K", "se Cret"))
	for _, l := range [][]string{
		{}, {"X-K: "}, {"X-K: se"}, {"X-K: se cret"}, {"X-K: se Cret "}, {"X-K: se Crets"}, {"X-K:  se Cret"}, {"X-K: se Cret, se Cret"}, {"X: se Cret"}, {"X-KK: se Cret"}, {"se Cret: X-K"}, {": se Cret"},
		{"X-K: se Cret", "X-K: se Cret"}, {"X-K: se Cret", "x-k: se Cret"}, {"X-K: se Cret", "X-K: "}, {"X-K: ", "X-K: se Cret"}, {"x-k: a", "A: 1", "X-K: se Cret"}, {"X-K: se Cret", "A: 1", "x-K: b"}, {"X-K: se Cret", "X-K: se Cret", "X-K: se Cret"}, {"A: se Cret", "B: 2"},
	} {
		p.stop(get(l...), 401, "no entry", "WWW-Authenticate: Token")
		p.stop(query{method: "OPTIONS", fields: list(l...), size: 5}, 401, "no entry", "WWW-Authenticate: Token")
	}
	p.pass(get("X-K: se Cret"))
	p.pass(get("x-k: se Cret"))
	p.pass(get("A: 1", "X-k: se Cret", "X-KK: 2", "A: 3"), "A: 1", "X-KK: 2", "A: 3")
	p.back(list("X-K: 1"), "X-K: 1")
}

// Each byte of a value counts; of a name just letters may be of either case.
func TestTokenOfEachByte(t *testing.T) {
	for i := range 256 {
		p := both(t, 0, tokens("x"+string([]byte{byte(i)}), "v"+string([]byte{byte(i)})))
		for k := range 256 {
			p.ask(query{fields: []api.Field{{Name: "X" + string([]byte{byte(k)}), Value: "v" + string([]byte{byte(i)})}}})
			p.ask(query{fields: []api.Field{{Name: "X" + string([]byte{byte(i)}), Value: "v" + string([]byte{byte(k)})}}})
		}
	}
}

// FilterCors: a request that asks what another site's page may do is replied to; others go on.
func TestCors(t *testing.T) {
	p := both(t, 0, cors("https://a.b"))
	asked := func(method string, texts ...string) query { return query{method: method, fields: list(texts...)} }
	const from = "Access-Control-Allow-Origin: https://a.b"
	p.stop(asked("OPTIONS", "Origin: o", "Access-Control-Request-Method: PUT"), 200, "", from, "Access-Control-Allow-Methods: PUT")
	p.stop(asked("OPTIONS", "access-control-request-METHOD: put", "A: 1", "oRIGIN: https://x"), 200, "", from, "Access-Control-Allow-Methods: put")
	p.stop(asked("OPTIONS", "Origin: ", "Access-Control-Request-Method: "), 200, "", from, "Access-Control-Allow-Methods: ")
	p.stop(asked("OPTIONS", "Origin: o", "Access-Control-Request-Method: ", "Access-Control-Request-Method: PUT"), 200, "", from, "Access-Control-Allow-Methods: ")
	p.stop(asked("OPTIONS", "Origin: o", "access-control-request-method: GET, A", "Origin: p", "Access-Control-Request-Method: PUT"), 200, "", from, "Access-Control-Allow-Methods: GET, A")
	p.stop(query{method: "OPTIONS", fields: preflight(0).fields, size: 99}, 200, "", from, "Access-Control-Allow-Methods: PUT")

	for _, method := range []string{"GET", "", "options", "Options", "OPTION", "OPTIONSS", " OPTIONS", "PUT", "CONNECT", "HEAD"} {
		p.pass(asked(method, "Origin: o", "Access-Control-Request-Method: PUT"), "Origin: o", "Access-Control-Request-Method: PUT")
	}
	for _, l := range [][]string{
		{}, {"Origin: o"}, {"Access-Control-Request-Method: PUT"}, {"Origins: o", "Access-Control-Request-Method: PUT"}, {"Origin: o", "Access-Control-Request-Methods: PUT"}, {"Origin: o", "Access-Control-Request-Headers: A"}, {"Origin: o", "Origin: o"},
		{"Access-Control-Request-Method: PUT", "Access-Control-Request-Method: PUT"}, {"Origin: o", "Access-Control-Allow-Methods: PUT"}, {": o", ": PUT"}, {"A: Origin", "B: Access-Control-Request-Method"}, {"Origin: Access-Control-Request-Method"},
	} {
		p.pass(asked("OPTIONS", l...), l...)
		p.pass(asked("GET", l...), l...)
	}
	both(t, 0, cors("*")).stop(preflight(0), 200, "", "Access-Control-Allow-Origin: *", "Access-Control-Allow-Methods: PUT")
}

// FilterBody: more than N bytes are too many.
func TestBody(t *testing.T) {
	for _, n := range []int{0, 1, 2, 100, 65535, 65536} {
		p := both(t, 0, bodies(n))
		for _, size := range []int{math.MinInt, -1, 0, 1, n - 1, n} {
			if size <= n {
				p.pass(query{method: "PUT", fields: list("A: 1"), size: size}, "A: 1")
			}
		}
		for _, size := range []int{n + 1, n + 2, 65537, 1 << 31, 1 << 32, math.MaxInt} {
			p.stop(query{method: "PUT", fields: list("A: 1"), size: size}, 413, "too much")
		}
		p.back(list("A: 1"), "A: 1")
	}
}

// FilterFault: of a hundred about N, by the dice.
func TestFault(t *testing.T) {
	for _, seed := range []int{7, 0, 1, -1, math.MinInt, math.MaxInt, 1 << 40} {
		for _, n := range []int{0, 1, 2, 50, 98, 99, 100} {
			p, d := both(t, seed, faults(n, 503)), dice.New(seed)
			for now := range 300 {
				if d.Below(100) < n {
					p.stop(at(now), 503, "fault")
				} else {
					p.pass(query{now: now, fields: list("A: 1"), size: now}, "A: 1")
				}
			}
		}
	}
	for m := 400; m < 600; m++ {
		both(t, 0, faults(100, m)).stop(at(0), m, "fault")
		both(t, 0, faults(0, m)).pass(at(0))
	}
	both(t, 0, faults(100, 500)).back(list("A: 1"), "A: 1")
}

// The first draw of the seed 0 is 88 of 100, as its 64 bits begin with 0xe220.
func TestFaultAtItsEdge(t *testing.T) {
	both(t, 0, faults(88, 500)).pass(at(0))
	both(t, 0, faults(89, 500)).stop(at(0), 500, "fault")
}

// All faults of a chain draw from one dice; each that a request comes to draws once, also where nothing hangs on it.
func TestFaultsShareTheDice(t *testing.T) {
	for _, n := range []int{1, 30, 50, 77, 99} {
		p, d := both(t, 3, faults(0, 400), faults(n, 555), faults(0, 400)), dice.New(3)
		for now := range 200 {
			d.Next()
			if d.Below(100) < n {
				p.stop(at(now), 555, "fault")
				continue
			}
			d.Next()
			p.pass(at(now))
		}
	}
	// One that always replies draws, too.
	p, d := both(t, 8, faults(30, 500), faults(100, 501)), dice.New(8)
	for now := range 200 {
		if d.Below(100) < 30 {
			p.stop(at(now), 500, "fault")
			continue
		}
		d.Next()
		p.stop(at(now), 501, "fault")
	}
	// Where the first one replies the second isn't come to, and draws nothing.
	p, d = both(t, 5, faults(50, 500), faults(50, 501)), dice.New(5)
	for range 200 {
		switch {
		case d.Below(100) < 50:
			p.stop(at(0), 500, "fault")
		case d.Below(100) < 50:
			p.stop(at(0), 501, "fault")
		default:
			p.pass(at(0))
		}
	}
}

// What draws nothing: requests that are replied to ahead, times that are wrong, the way back, other filters.
func TestFaultsDrawNoMore(t *testing.T) {
	ahead := []api.Filter{sets("A", "1"), drops("B"), limits(1<<30, 1, 1), cors("*"), bodies(5), answers("S", "1")}
	p, d := both(t, 11, append(ahead, faults(50, 555))...), dice.New(11)
	for now := 10; now < 300; now++ {
		p.stop(preflight(now), 200, "", "Access-Control-Allow-Origin: *", "Access-Control-Allow-Methods: PUT")
		p.stop(query{now: now, size: 6}, 413, "too much")
		p.refused(at(now - 1))
		p.refused(at(-1))
		p.refused(at(1<<40 + 1))
		p.back(nil, "S: 1", "Access-Control-Allow-Origin: *")
		q := query{now: now, method: "GET", fields: list("B: 1", "a: 2"), size: 5}
		if d.Below(100) < 50 {
			p.stop(q, 555, "fault")
		} else {
			p.pass(q, "A: 1")
		}
	}
}

// FilterAnswer: nothing on the way on; on the way back the fields of the name, in any case, give way to one at the end.
func TestAnswer(t *testing.T) {
	p := both(t, 0, answers("Server", "b"))
	p.pass(get())
	p.pass(get("Server: a", "A: 1", "server: c"), "Server: a", "A: 1", "server: c")
	p.pass(query{method: "OPTIONS", fields: preflight(0).fields, size: 1 << 20}, "Origin: o", "Access-Control-Request-Method: PUT")
	p.back(nil, "Server: b")
	p.back(list("A: 1"), "A: 1", "Server: b")
	p.back(list("Server: b", "A: 1"), "A: 1", "Server: b")
	p.back(list("server: a", "A: 1", "SERVER: c", "a: 2", "Server: "), "A: 1", "a: 2", "Server: b")
	p.back(list("Servers: a", "Serve: c"), "Servers: a", "Serve: c", "Server: b")
	both(t, 0, answers("x-y", "")).back(list("X-Y: 1"), "x-y: ")
}

// FilterCors on the way back: the origin is told with each response.
func TestCorsBack(t *testing.T) {
	p := both(t, 0, cors("https://a.b"))
	const from = "Access-Control-Allow-Origin: https://a.b"
	p.back(nil, from)
	p.back(list("A: 1", "Access-Control-Allow-Methods: PUT"), "A: 1", "Access-Control-Allow-Methods: PUT", from)
	p.back(list("access-control-allow-origin: *", "A: 1", "Access-Control-Allow-Origin: *"), "A: 1", from)
	p.back(list("Origin: o", "Access-Control-Request-Method: PUT"), "Origin: o", "Access-Control-Request-Method: PUT", from)
	// The reply to what asks has just one such field behind the way back, in its new place.
	v, _ := p.ask(preflight(0))
	p.back(v.Fields, "Access-Control-Allow-Methods: PUT", from)
}

// The filters that do nothing on the way back.
func TestOthersBack(t *testing.T) {
	for _, f := range []api.Filter{sets("A", "1"), drops("A"), limits(1, 1, 1), tokens("A", "1"), bodies(0), faults(100, 500)} {
		for range 3 {
			p := both(t, 0, f)
			p.back(nil)
			p.back(list("A: 2", "B: 3", "a: 1"), "A: 2", "B: 3", "a: 1")
			p = both(t, 0, answers("B", "1"), f, answers("A", "2"), f)
			p.back(list("A: 2", "B: 3", "a: 1"), "A: 2", "B: 1")
		}
	}
	// No response takes a token.
	p := both(t, 0, limits(1, 1, 100))
	p.back(nil)
	p.back(nil)
	limited(p, 0, 1)
}
