package filter_test

import (
	"slices"
	"strings"
	"testing"

	"barbican/api"
	"barbican/dice"
	"barbican/filter"
)

// What the chapter says, told another way: fields are kept or not by a mark each; a bucket goes from filling to filling; the verdict on a request is put together from what each filter says of it alone.

// pot is a bucket: how many tokens it has, and when the next filling comes.
type pot struct {
	tokens, next int
}

// model is a chain.
type model struct {
	filters []api.Filter
	pots    []pot
	faults  *dice.Dice
	times   []int // of all calls that weren't refused
}

// newModel makes one.
func newModel(filters []api.Filter, seed int) *model {
	m := &model{filters: slices.Clone(filters), faults: dice.New(seed)}
	for _, f := range filters {
		m.pots = append(m.pots, pot{f.N, f.K})
	}
	return m
}

// small is s with small letters for large ones.
func small(s string) string {
	b := []byte(s)
	for i := range b {
		if b[i] >= 'A' && b[i] <= 'Z' {
			b[i] += 'a' - 'A'
		}
	}
	return string(b)
}

// of are the values of a name, and the fields of other names.
func of(l []api.Field, name string) ([]string, []api.Field) {
	var values []string
	var others []api.Field
	for _, f := range l {
		if small(f.Name) == small(name) {
			values = append(values, f.Value)
		} else {
			others = append(others, f)
		}
	}
	return values, others
}

// set are the fields behind a filter that sets one.
func set(l []api.Field, name string, value string) []api.Field {
	_, others := of(l, name)
	return append(others, api.Field{Name: name, Value: value})
}

// take takes a token of the filter i.
func (m *model) take(i int, now int) bool {
	f, p := m.filters[i], &m.pots[i]
	for p.next <= now {
		p.tokens += f.M
		if p.tokens >= f.N {
			// All fillings up to now change nothing any more.
			p.tokens = f.N
			p.next = now - now%f.K
		}
		p.next += f.K
	}
	p.tokens--
	if p.tokens < 0 {
		p.tokens = 0
		return false
	}
	return true
}

// answer is what the filter i says of a request: a reply, or none and the fields that go on.
func (m *model) answer(i int, q query) ([]filter.Verdict, []api.Field) {
	f := m.filters[i]
	values, others := of(q.fields, f.Name)
	stop := func(status int, body string, l ...api.Field) ([]filter.Verdict, []api.Field) {
		return []filter.Verdict{{Stop: true, Status: status, Body: body, Fields: l}}, nil
	}
	switch f.Kind {
	case 1:
		return nil, set(q.fields, f.Name, f.Value)
	case 2:
		return nil, others
	case 3:
		if !m.take(i, q.now) {
			return stop(429, "slow down")
		}
	case 4:
		if !slices.Equal(values, []string{f.Value}) {
			return stop(401, "no entry", api.Field{Name: "WWW-Authenticate", Value: "Token"})
		}
		return nil, others
	case 5:
		from, _ := of(q.fields, "Origin")
		methods, _ := of(q.fields, "Access-Control-Request-Method")
		if q.method == "OPTIONS" && len(from)*len(methods) > 0 {
			return stop(200, "", api.Field{Name: "Access-Control-Allow-Origin", Value: f.Value}, api.Field{Name: "Access-Control-Allow-Methods", Value: methods[0]})
		}
	case 6:
		if f.N < q.size {
			return stop(413, "too much")
		}
	case 7:
		if f.N > m.faults.Below(100) {
			return stop(f.M, "fault")
		}
	}
	return nil, q.fields
}

// request is the verdict on a request.
func (m *model) request(q query) (filter.Verdict, api.Errno) {
	if q.now < 0 || q.now > 1<<40 || slices.ContainsFunc(m.times, func(time int) bool { return time > q.now }) {
		return filter.Verdict{}, api.ErrTime
	}
	m.times = []int{q.now}
	for i := range m.filters {
		replies, l := m.answer(i, q)
		for _, v := range replies {
			return v, api.OK
		}
		q.fields = l
	}
	return filter.Verdict{Pass: q.fields}, api.OK
}

// response are the fields behind the way back.
func (m *model) response(l []api.Field) []api.Field {
	for i := len(m.filters); i > 0; i-- {
		switch f := m.filters[i-1]; f.Kind {
		case 8:
			l = set(l, f.Name, f.Value)
		case 5:
			l = set(l, "Access-Control-Allow-Origin", f.Value)
		}
	}
	return l
}

// query is what the chain is asked of a request.
type query struct {
	now    int
	method string
	fields []api.Field
	size   int
}

// get is a request of these fields, at the time 0.
func get(texts ...string) query {
	return query{method: "GET", fields: list(texts...)}
}

// at is a request without fields, at that time.
func at(now int) query {
	return query{now: now, method: "GET"}
}

// list are fields, of texts "name: value".
func list(texts ...string) []api.Field {
	var l []api.Field
	for _, t := range texts {
		name, value, _ := strings.Cut(t, ": ")
		l = append(l, api.Field{Name: name, Value: value})
	}
	return l
}

// pair is a chain and its model, which are told the same.
type pair struct {
	t     *testing.T
	chain *filter.Chain
	model *model
}

// both makes a pair.
func both(t *testing.T, seed int, filters ...api.Filter) *pair {
	t.Helper()
	p := &pair{t, filter.New(filters, seed), newModel(filters, seed)}
	if p.chain == nil {
		t.Fatalf("New(%v, %d) is nil", filters, seed)
	}
	return p
}

// same tells whether two verdicts are the same.
func same(a filter.Verdict, b filter.Verdict) bool {
	return a.Stop == b.Stop && a.Status == b.Status && a.Body == b.Body && slices.Equal(a.Fields, b.Fields) && slices.Equal(a.Pass, b.Pass)
}

// ask asks both of a request.
func (p *pair) ask(q query) (filter.Verdict, api.Errno) {
	p.t.Helper()
	v, e := p.chain.Request(q.now, q.method, q.fields, q.size)
	if want, wantE := p.model.request(q); !same(v, want) || e != wantE {
		p.t.Fatalf("of %v: Request(%v) = %v, %d, not %v, %d", p.model.filters, q, v, e, want, wantE)
	}
	return v, e
}

// pass wants a request to go on with these fields.
func (p *pair) pass(q query, texts ...string) {
	p.t.Helper()
	v, e := p.ask(q)
	if !same(v, filter.Verdict{Pass: list(texts...)}) || e != api.OK {
		p.t.Fatalf("of %v: Request(%v) = %v, %d, not on with %q", p.model.filters, q, v, e, texts)
	}
}

// stop wants a reply.
func (p *pair) stop(q query, status int, body string, texts ...string) {
	p.t.Helper()
	v, e := p.ask(q)
	if !same(v, filter.Verdict{Stop: true, Status: status, Body: body, Fields: list(texts...)}) || e != api.OK {
		p.t.Fatalf("of %v: Request(%v) = %v, %d, not the reply %d, %q, %q", p.model.filters, q, v, e, status, body, texts)
	}
}

// refused wants a request's time to be wrong.
func (p *pair) refused(q query) {
	p.t.Helper()
	v, e := p.ask(q)
	if !same(v, filter.Verdict{}) || e != api.ErrTime {
		p.t.Fatalf("of %v: Request(%v) = %v, %d, not ErrTime", p.model.filters, q, v, e)
	}
}

// back wants a response of the first fields to have the others behind the way back.
func (p *pair) back(l []api.Field, texts ...string) {
	p.t.Helper()
	got, want := p.chain.Response(l), p.model.response(l)
	if !slices.Equal(got, want) || !slices.Equal(got, list(texts...)) {
		p.t.Fatalf("of %v: Response(%q) = %q, not %q; %q was wanted", p.model.filters, l, got, want, texts)
	}
}

// The filters, shortly.

func sets(name string, value string) api.Filter {
	return api.Filter{Kind: api.FilterSet, Name: name, Value: value}
}

func drops(name string) api.Filter {
	return api.Filter{Kind: api.FilterDrop, Name: name}
}

func limits(n int, m int, k int) api.Filter {
	return api.Filter{Kind: api.FilterLimit, N: n, M: m, K: k}
}

func tokens(name string, value string) api.Filter {
	return api.Filter{Kind: api.FilterToken, Name: name, Value: value}
}

func cors(value string) api.Filter {
	return api.Filter{Kind: api.FilterCors, Value: value}
}

func bodies(n int) api.Filter {
	return api.Filter{Kind: api.FilterBody, N: n}
}

func faults(n int, m int) api.Filter {
	return api.Filter{Kind: api.FilterFault, N: n, M: m}
}

func answers(name string, value string) api.Filter {
	return api.Filter{Kind: api.FilterAnswer, Name: name, Value: value}
}

// preflight is a request that a FilterCors replies to.
func preflight(now int) query {
	return query{now: now, method: "OPTIONS", fields: list("Origin: o", "Access-Control-Request-Method: PUT")}
}
