package filter_test

import (
	"math"
	"reflect"
	"slices"
	"strconv"
	"sync"
	"testing"

	"barbican/api"
	"barbican/config"
	"barbican/dice"
	"barbican/filter"
)

// Each filter is told the fields as those ahead left them.
func TestOrderOn(t *testing.T) {
	const entry = "WWW-Authenticate: Token"
	both(t, 0, sets("A", "1"), sets("a", "2")).pass(get("A: 0", "B: 3"), "B: 3", "a: 2")
	both(t, 0, sets("A", "1"), sets("B", "2"), sets("A", "3")).pass(get("C: 0"), "C: 0", "B: 2", "A: 3")
	both(t, 0, sets("A", "1"), drops("A")).pass(get("A: 0"))
	both(t, 0, drops("A"), sets("A", "1")).pass(get("A: 0"), "A: 1")
	both(t, 0, sets("K", "s"), tokens("K", "s")).pass(get())
	both(t, 0, sets("K", "s"), tokens("K", "s")).pass(get("K: t", "k: s"))
	both(t, 0, drops("K"), tokens("K", "s")).stop(get("K: s"), 401, "no entry", entry)
	both(t, 0, sets("K", "t"), tokens("K", "s")).stop(get("K: s"), 401, "no entry", entry)
	both(t, 0, tokens("K", "s"), sets("K", "t")).pass(get("K: s"), "K: t")
	// What a FilterToken has left out the next one misses.
	both(t, 0, tokens("K", "s"), tokens("K", "s")).stop(get("K: s"), 401, "no entry", entry)
	both(t, 0, tokens("K", "s"), tokens("L", "t")).pass(get("K: s", "L: t"))
	both(t, 0, tokens("K", "s"), tokens("L", "t")).stop(get("L: t"), 401, "no entry", entry)

	p := both(t, 0, drops("Origin"), cors("*"))
	p.pass(preflight(0), "Access-Control-Request-Method: PUT")
	p = both(t, 0, drops("Access-Control-Request-Method"), cors("*"))
	p.pass(preflight(0), "Origin: o")
	p = both(t, 0, cors("*"), drops("Origin"))
	p.stop(preflight(0), 200, "", "Access-Control-Allow-Origin: *", "Access-Control-Allow-Methods: PUT")
	p = both(t, 0, sets("Access-Control-Request-Method", "GET"), cors("*"))
	p.stop(preflight(0), 200, "", "Access-Control-Allow-Origin: *", "Access-Control-Allow-Methods: GET")
	p = both(t, 0, sets("origin", ""), cors("*"))
	p.stop(query{method: "OPTIONS", fields: list("Access-Control-Request-Method: PUT")}, 200, "", "Access-Control-Allow-Origin: *", "Access-Control-Allow-Methods: PUT")
	p = both(t, 0, answers("Origin", "o"), answers("Access-Control-Request-Method", "PUT"), cors("*"))
	p.pass(query{method: "OPTIONS"})
}

// Of two filters that would reply the first does.
func TestFirstReply(t *testing.T) {
	type replying struct {
		f      api.Filter
		status int
		body   string
		fields []string
	}
	all := []replying{
		{limits(1, 1, 1<<30), 429, "slow down", nil}, {tokens("K", "s"), 401, "no entry", []string{"WWW-Authenticate: Token"}}, {bodies(3), 413, "too much", nil}, {faults(100, 418), 418, "fault", nil},
		{cors("x"), 200, "", []string{"Access-Control-Allow-Origin: x", "Access-Control-Allow-Methods: PUT"}},
	}
	q := query{method: "OPTIONS", fields: preflight(0).fields, size: 4}
	for _, first := range all {
		for _, second := range all {
			filters := []api.Filter{sets("A", "1"), first.f, drops("A"), second.f, answers("S", "b")}
			// A limit's one token goes to the first request, which then is replied to by the other filter, or goes on.
			p := both(t, 0, filters...)
			p.ask(q)
			p.stop(q, first.status, first.body, first.fields...)
		}
	}
}

// On the way back the filters are gone through from the last to the first.
func TestOrderBack(t *testing.T) {
	both(t, 0, answers("A", "1"), answers("B", "2"), answers("C", "3")).back(list("D: 4"), "D: 4", "C: 3", "B: 2", "A: 1")
	both(t, 0, answers("A", "1"), answers("a", "2")).back(list("A: 4"), "A: 1")
	both(t, 0, answers("A", "1"), answers("B", "2"), answers("A", "3")).back(nil, "B: 2", "A: 1")
	both(t, 0, cors("x"), cors("y")).back(nil, "Access-Control-Allow-Origin: x")
	both(t, 0, cors("x"), answers("access-control-allow-origin", "y")).back(nil, "Access-Control-Allow-Origin: x")
	both(t, 0, answers("access-control-allow-origin", "y"), cors("x")).back(nil, "access-control-allow-origin: y")
	both(t, 0, cors("x"), answers("S", "b")).back(nil, "S: b", "Access-Control-Allow-Origin: x")
	both(t, 0, answers("S", "b"), cors("x")).back(nil, "Access-Control-Allow-Origin: x", "S: b")
}

// A reply has nothing of the way back in it, and is the same whatever was set on the way on.
func TestRepliesAlone(t *testing.T) {
	p := both(t, 0, answers("S", "b"), cors("x"), sets("A", "1"), tokens("K", "s"), answers("T", "c"))
	p.stop(get("A: 1"), 401, "no entry", "WWW-Authenticate: Token")
	p.stop(preflight(0), 200, "", "Access-Control-Allow-Origin: x", "Access-Control-Allow-Methods: PUT")
	p.back(list("WWW-Authenticate: Token"), "WWW-Authenticate: Token", "T: c", "Access-Control-Allow-Origin: x", "S: b")
}

// Times: from the last one on, up to MaxTime.
func TestTimes(t *testing.T) {
	for _, filters := range [][]api.Filter{nil, {sets("A", "1")}, {limits(1<<30, 1, 1), bodies(0)}, {faults(100, 400)}} {
		p := both(t, 0, filters...)
		for _, now := range []int{-1, -2, math.MinInt, 1<<40 + 1, 1<<40 + 2, math.MaxInt} {
			p.refused(at(now))
		}
		for _, now := range []int{0, 0, 1, 1, 7, 5000, 1<<40 - 1, 1<<40 - 1, 1 << 40, 1 << 40} {
			if _, e := p.ask(query{now: now, size: now}); e != api.OK {
				t.Errorf("at %d: %d", now, e)
			}
			for _, before := range []int{now - 1, 0, -1, math.MinInt, 1<<40 + 1, math.MaxInt} {
				if before < now || before > 1<<40 {
					p.refused(query{now: before, method: "GET", fields: list("A: 1"), size: 3})
				}
			}
		}
	}
	// The first time may be any right one.
	for _, now := range []int{0, 1, 1 << 39, 1 << 40} {
		p := both(t, 0)
		p.pass(at(now))
		p.pass(at(now))
	}
}

// A request that is replied to by the first filter tells the time, too, also to a limit behind it.
func TestRepliesTellTheTime(t *testing.T) {
	p := both(t, 0, tokens("K", "s"), limits(2, 1, 10))
	p.stop(at(15), 401, "no entry", "WWW-Authenticate: Token")
	p.refused(at(14))
	p.refused(query{now: 14, fields: list("K: s")})
	for range 2 {
		p.pass(query{now: 15, fields: list("K: s")})
	}
	p.stop(query{now: 15, fields: list("K: s")}, 429, "slow down")
	p.stop(query{now: 19}, 401, "no entry", "WWW-Authenticate: Token")
	p.pass(query{now: 20, fields: list("K: s")})
	p.stop(query{now: 20, fields: list("K: s")}, 429, "slow down")
	p.refused(at(19))
}

// A time that is wrong changes nothing: no later call can tell it.
func TestRefusedTimes(t *testing.T) {
	p := both(t, 0, limits(2, 1, 10))
	p.pass(at(5))
	for range 5 {
		p.refused(at(4))
		p.refused(at(1<<40 + 1))
		p.refused(at(math.MaxInt))
	}
	limited(p, 5, 1)
	limited(p, 10, 1)
	p.refused(at(9))
	limited(p, 10, 0)
}

// The way back has no time, and tells none.
func TestResponsesAtAnyTime(t *testing.T) {
	p := both(t, 0, answers("S", "b"))
	p.back(nil, "S: b")
	p.pass(at(5))
	p.back(list("A: 1"), "A: 1", "S: b")
	p.pass(at(5))
	p.refused(at(4))
	p.back(list("A: 1"), "A: 1", "S: b")
	p.pass(at(1 << 40))
	p.back(nil, "S: b")
}

// Two chains have nothing in common, also if they were made of one list.
func TestChainsAreApart(t *testing.T) {
	filters := []api.Filter{limits(1, 1, 10), faults(50, 500)}
	first, second := both(t, 4, filters...), both(t, 4, filters...)
	for now := 0; now < 1000; now += 10 {
		a, _ := first.ask(at(now))
		first.stop(at(now), 429, "slow down")
		b, _ := second.ask(at(now))
		if !same(a, b) {
			t.Errorf("at %d: %v and %v", now, a, b)
		}
	}
	third := both(t, 4, filters...)
	third.ask(at(0))
	third.stop(at(0), 429, "slow down")
}

// The same calls bring the same answers.
func TestSameAgain(t *testing.T) {
	d := dice.New(9)
	for range 100 {
		filters, seed := drawFilters(d), d.Below(1000)
		first, second := filter.New(filters, seed), filter.New(filters, seed)
		now := 0
		for range 50 {
			q := drawQuery(d, &now)
			a, e := first.Request(q.now, q.method, q.fields, q.size)
			first.Response(q.fields)
			b, f := second.Request(q.now, q.method, q.fields, q.size)
			if !same(a, b) || e != f {
				t.Fatalf("of %v: Request(%v) = %v, %d and %v, %d", filters, q, a, e, b, f)
			}
		}
	}
}

// What the list of filters becomes behind New is nothing to the chain.
func TestFiltersAreNotKept(t *testing.T) {
	filters := []api.Filter{tokens("K", "s"), limits(1, 1, 10), sets("A", "1"), bodies(5), faults(0, 500), cors("x"), answers("S", "b"), drops("B")}
	memory := append(make([]api.Filter, 0, 20), filters...)
	c := filter.New(memory[:len(filters)], 0)
	if !slices.Equal(memory, filters) || !reflect.DeepEqual(memory[:cap(memory)][len(filters):], make([]api.Filter, 20-len(filters))) {
		t.Errorf("New has changed what it was handed: %v", memory[:cap(memory)])
	}
	for i := range memory[:cap(memory)] {
		memory[:cap(memory)][i] = faults(100, 599)
	}
	v, e := c.Request(0, "GET", list("K: s", "B: 1"), 5)
	if !same(v, filter.Verdict{Pass: list("A: 1")}) || e != api.OK {
		t.Errorf("Request = %v, %d", v, e)
	}
	if l := c.Response(nil); !slices.Equal(l, list("S: b", "Access-Control-Allow-Origin: x")) {
		t.Errorf("Response = %q", l)
	}
	if v, _ := c.Request(0, "GET", list("K: s"), 5); v.Status != 429 {
		t.Errorf("the second Request = %v", v)
	}
}

// spare is all of a list's memory, also behind its end.
func spare(l []api.Field) []api.Field {
	return l[:cap(l)]
}

// spoil writes over all of a list's memory.
func spoil(l []api.Field, by string) {
	for i := range spare(l) {
		spare(l)[i] = api.Field{Name: "Spoilt", Value: by}
	}
}

// roomy is a list of these fields with spare room that isn't empty.
func roomy(texts ...string) []api.Field {
	return append(list(texts...), list("K: s", "A: 2", "S: t", "B: 3", "Origin: o", "Access-Control-Request-Method: PUT")...)[:len(texts)]
}

// What is handed in stays as it was, its spare room, too, and answers share no memory with it nor with one another.
func TestMemory(t *testing.T) {
	chains := [][]api.Filter{nil, {bodies(5)}, {answers("S", "b")}, {sets("A", "1")}, {drops("A")}, {tokens("K", "s")}, {cors("x")}, {faults(0, 400), limits(99, 1, 1)}, {cors("y"), sets("A", "1"), sets("B", "2"), drops("K"), answers("S", "b"), answers("T", "c")}}
	for _, filters := range chains {
		for _, texts := range [][]string{{}, {"K: s"}, {"A: 1"}, {"B: 1", "A: 2", "K: s", "s: 1"}, {"Origin: o", "Access-Control-Request-Method: PUT"}} {
			holdMemory(both(t, 0, filters...), "GET", texts)
			holdMemory(both(t, 0, filters...), "OPTIONS", texts)
		}
	}
}

// holdMemory asks a chain twice of the same list, and writes over that list and over the first answers.
func holdMemory(p *pair, method string, texts []string) {
	p.t.Helper()
	l := roomy(texts...)
	before := slices.Clone(spare(l))
	fresh := query{method: method, fields: list(texts...)}
	want, _ := p.model.request(fresh)
	wantBack := p.model.response(fresh.fields)
	hold := func(what string, v filter.Verdict, back []api.Field) {
		p.t.Helper()
		if !same(v, want) || !slices.Equal(back, wantBack) {
			p.t.Fatalf("of %v, %q: %s: %v, %q, not %v, %q", p.model.filters, texts, what, v, back, want, wantBack)
		}
	}
	q := query{method: method, fields: l}
	first, _ := p.ask(q)
	firstBack := p.chain.Response(l)
	second, _ := p.ask(q)
	secondBack := p.chain.Response(l)
	if !slices.Equal(spare(l), before) {
		p.t.Fatalf("of %v: what was handed in is %q by now, was %q", p.model.filters, spare(l), before)
	}
	spoil(l, "as an argument")
	hold("the first answers share memory with what was handed in", first, firstBack)
	hold("the second answers share memory with what was handed in", second, secondBack)
	spoil(first.Fields, "as an answer")
	spoil(first.Pass, "as an answer")
	hold("the second answers share memory with the first verdict", second, secondBack)
	spoil(firstBack, "as an answer")
	hold("the second answers share memory with the first response", second, secondBack)
	if slices.Contains(spare(l), api.Field{Name: "Spoilt", Value: "as an answer"}) {
		p.t.Fatalf("of %v, %q: an answer's spare room is that of what was handed in", p.model.filters, texts)
	}
	third, _ := p.ask(fresh)
	hold("the chain keeps what it answered", third, p.chain.Response(fresh.fields))
}

// Filters that are read from a config's text, one of each kind, right as they are.
func TestRightConfig(t *testing.T) {
	c, _, e := config.Parse("listen 4 100 50 20 2 7\n" +
		"filter 3 - - 3 1 10\nfilter 4 X-K s 0 0 0\nfilter 5 - https://a.b 0 0 0\nfilter 6 - - 5 0 0\nfilter 2 X-B - 0 0 0\nfilter 1 X-A a%20b 0 0 0\nfilter 8 Server b 0 0 0\nfilter 7 - - 50 503 0\n")
	if e != api.OK {
		t.Fatal(e)
	}
	p := both(t, c.Seed, c.Filters...)
	asks := query{method: "OPTIONS", fields: list("X-K: s", "Origin: o", "Access-Control-Request-Method: PUT")}
	p.stop(asks, 200, "", "Access-Control-Allow-Origin: https://a.b", "Access-Control-Allow-Methods: PUT")
	p.stop(query{fields: list("X-K: s"), size: 6}, 413, "too much")
	p.stop(get("X-K: S"), 401, "no entry", "WWW-Authenticate: Token")
	p.stop(asks, 429, "slow down")
	d := dice.New(7)
	for now := 10; now < 500; now += 10 {
		q := query{now: now, fields: list("X-B: 1", "x-k: s", "X-C: 2"), size: 5}
		if d.Below(100) < 50 {
			p.stop(q, 503, "fault")
		} else {
			p.pass(q, "X-C: 2", "X-A: a b")
		}
	}
	p.back(list("server: a", "A: 1"), "A: 1", "Server: b", "Access-Control-Allow-Origin: https://a.b")
}

// Filters that aren't right: nothing is promised of what they do, but every call ends and none panics.
func TestWrongFilters(t *testing.T) {
	numbers := []int{math.MinInt, -1, 0, 1, 1<<30 + 1, math.MaxInt}
	for kind := -1; kind <= 10; kind++ {
		for _, n := range numbers {
			for _, m := range numbers {
				for _, k := range numbers {
					c := filter.New([]api.Filter{{Kind: kind, N: n, M: m, K: k}, {Kind: kind, Name: "a b", Value: "\r\n", N: k, M: n, K: m}}, n)
					if c == nil {
						t.Fatal("New is nil")
					}
					for _, q := range []query{{}, {now: -1}, {now: 3, method: "OPTIONS", fields: preflight(0).fields, size: math.MinInt}, {now: 1 << 40, fields: list(": ", "a b: \r\n"), size: math.MaxInt}, {now: math.MaxInt}, {now: 1 << 40}} {
						v, e := c.Request(q.now, q.method, q.fields, q.size)
						if (q.now < 0 || q.now > 1<<40) != (e == api.ErrTime) || e != api.OK && !same(v, filter.Verdict{}) {
							t.Errorf("kind %d: Request(%v) = %v, %d", kind, q, v, e)
						}
						if v.Stop && v.Pass != nil || !v.Stop && (v.Status != 0 || v.Body != "" || v.Fields != nil) {
							t.Errorf("kind %d: Request(%v) = %v: half a reply", kind, q, v)
						}
						c.Response(q.fields)
					}
				}
			}
		}
	}
}

// Requests and responses may be any, right or not.
func TestWrongRequests(t *testing.T) {
	p := both(t, 0, sets("A", "1"), drops("B"), answers("S", "b"), cors("x"), bodies(5))
	for _, q := range []query{
		{method: "\x00\xff", fields: []api.Field{{}, {Name: "\x00", Value: "\r\n"}, {Name: "a", Value: "\xff"}}}, {method: "GET\r\n", size: math.MinInt}, {method: "OPTIONS", fields: []api.Field{{}, {}, {Name: "Origin", Value: "\n"}, {Name: "Access-Control-Request-Method", Value: "\r\n\x00"}}},
		{fields: list("Connection: A, Origin", "Transfer-Encoding: chunked", "Host: h")},
	} {
		p.ask(q)
		if got, want := p.chain.Response(q.fields), p.model.response(q.fields); !slices.Equal(got, want) {
			t.Errorf("Response(%q) = %q, not %q", q.fields, got, want)
		}
	}
}

// Long lists and long chains.
func TestLong(t *testing.T) {
	var l []api.Field
	for i := range 50000 {
		l = append(l, api.Field{Name: "X" + strconv.Itoa(i%7), Value: strconv.Itoa(i)})
	}
	p := both(t, 0, drops("X3"), sets("x4", "v"), answers("X5", "w"), cors("z"), tokens("K", "s"))
	p.ask(query{fields: l})
	p.ask(query{fields: append(list("K: s"), l...)})
	if !slices.Equal(p.chain.Response(l), p.model.response(l)) {
		t.Error("Response of a long list is wrong")
	}
	var filters []api.Filter
	for i := range 2000 {
		filters = append(filters, sets("X"+strconv.Itoa(i%100), strconv.Itoa(i)), answers("Y"+strconv.Itoa(i%100), strconv.Itoa(i)))
	}
	p = both(t, 0, filters...)
	if v, _ := p.ask(get("A: 1", "X5: 2")); len(v.Pass) != 101 || v.Pass[1] != (api.Field{Name: "X0", Value: "1900"}) {
		t.Errorf("the long chain's fields are %q", v.Pass)
	}
	if back := p.chain.Response(list("A: 1", "y5: 2")); len(back) != 101 || back[1] != (api.Field{Name: "Y99", Value: "99"}) || !slices.Equal(back, p.model.response(list("A: 1", "y5: 2"))) {
		t.Errorf("the long chain's answer is %q", back)
	}
}

// pick draws one of the texts.
func pick(d *dice.Dice, of ...string) string {
	return of[d.Below(len(of))]
}

// drawName draws a field's name.
func drawName(d *dice.Dice) string {
	return pick(d, "A", "a", "B", "b", "C", "X-K", "x-k", "Origin", "ORIGIN", "Access-Control-Request-Method", "access-control-request-method", "Access-Control-Allow-Origin", "access-control-allow-origin")
}

// drawFilters draws right filters.
func drawFilters(d *dice.Dice) []api.Filter {
	var filters []api.Filter
	for range d.Below(8) {
		name, value := drawName(d), pick(d, "1", "2", "a b")
		switch d.Below(8) + 1 {
		case api.FilterSet:
			filters = append(filters, sets(name, pick(d, value, "")))
		case api.FilterDrop:
			filters = append(filters, drops(name))
		case api.FilterLimit:
			filters = append(filters, limits(d.Below(5)+1, d.Below(5)+1, d.Below(9)+1))
		case api.FilterToken:
			filters = append(filters, tokens(name, value))
		case api.FilterCors:
			filters = append(filters, cors(value))
		case api.FilterBody:
			filters = append(filters, bodies(d.Below(4)))
		case api.FilterFault:
			filters = append(filters, faults(d.Below(101), 400+d.Below(200)))
		case api.FilterAnswer:
			filters = append(filters, answers(name, pick(d, value, "")))
		}
	}
	return filters
}

// drawFields draws a list of fields.
func drawFields(d *dice.Dice) []api.Field {
	var l []api.Field
	for range d.Below(7) {
		l = append(l, api.Field{Name: drawName(d), Value: pick(d, "", "1", "2", "a b", "A B")})
	}
	return l
}

// drawQuery draws a request, about the time now, which goes on by it.
func drawQuery(d *dice.Dice, now *int) query {
	q := query{now: *now + d.Below(12) - 2, method: pick(d, "GET", "OPTIONS", "OPTIONS", "options", ""), fields: drawFields(d), size: d.Below(6) - 1}
	if d.Below(9) == 0 {
		q.now = *now
	}
	*now = max(*now, q.now)
	return q
}

// Chains, requests and responses by chance.
func TestDrawn(t *testing.T) {
	d := dice.New(1)
	for range 4000 {
		p := both(t, d.Below(1<<40), drawFilters(d)...)
		now := d.Below(3) * d.Below(1<<20)
		for range 25 {
			p.ask(drawQuery(d, &now))
			l := drawFields(d)
			if got, want := p.chain.Response(l), p.model.response(l); !slices.Equal(got, want) {
				t.Fatalf("of %v: Response(%q) = %q, not %q", p.model.filters, l, got, want)
			}
		}
	}
}

// Chains of their own can be used by several at a time: they share nothing.
func TestBySeveral(t *testing.T) {
	filters := []api.Filter{limits(3, 2, 5), faults(40, 500), sets("A", "1"), answers("S", "b")}
	results := make([][]filter.Verdict, 8)
	var all sync.WaitGroup
	for i := range results {
		all.Add(1)
		go func() {
			defer all.Done()
			c := filter.New(filters, 6)
			for now := range 500 {
				v, _ := c.Request(now, "GET", list("B: 1"), 0)
				results[i] = append(results[i], v)
				c.Response(v.Pass)
			}
		}()
	}
	all.Wait()
	for _, r := range results {
		if !slices.EqualFunc(r, results[0], same) {
			t.Fatal("chains that are used at a time answer in several ways")
		}
	}
}
