package route_test

import (
	"math"
	"reflect"
	"slices"
	"strings"
	"testing"

	"barbican/api"
	"barbican/config"
	"barbican/dice"
	"barbican/route"
)

// request is what a route is found for.
type request struct {
	method, path string
	fields       []api.Field
}

// wantRoute wants the route to count for the request, alone and among others that don't; or not to.
func wantRoute(t *testing.T, r api.Route, q request, counts bool) {
	t.Helper()
	other := api.Route{Method: "NONE", Prefix: true}
	for _, c := range []struct {
		config api.Config
		v, n   int
	}{
		{routed(r), 0, 0}, {routed(other, other, r), 0, 2}, {routed(r, other), 0, 0}, {routed(other, r, r), 0, 1},
		{api.Config{Vhosts: []api.Vhost{{Domain: "x", Routes: []api.Route{{Prefix: true}}}, {Domain: "*", Routes: []api.Route{{Prefix: true}}}, {Domain: "h", Routes: []api.Route{other, r}}}}, 2, 1},
	} {
		wantV, wantN := c.v, c.n
		if !counts {
			wantV, wantN = 0, 0
		}
		v, n, ok := route.Find(c.config, q.method, "h", q.path, q.fields)
		if v != wantV || n != wantN || ok != counts {
			t.Errorf("Find(%v, %q) = %d, %d, %v, not %d, %d, %v", c.config.Vhosts, q, v, n, ok, wantV, wantN, counts)
		}
	}
}

// Methods: any, the request's, others.
func TestMethods(t *testing.T) {
	for _, c := range []struct {
		route, request string
		counts         bool
	}{
		{"", "GET", true}, {"", "", true}, {"", "CONNECT", true}, {"GET", "GET", true}, {"GET", "POST", false}, {"GET", "get", false}, {"get", "GET", false}, {"GET", "Get", false}, {"GET", "", false},
		{"GET", "GETS", false}, {"GETS", "GET", false}, {"GET", "GE", false}, {"GET", " GET", false}, {"get", "get", true}, {"*", "GET", false}, {"-", "GET", false}, {"\x00\xff", "\x00\xff", true},
	} {
		wantRoute(t, api.Route{Method: c.route, Path: "/a"}, request{method: c.request, path: "/a"}, c.counts)
		wantRoute(t, api.Route{Method: c.route, Path: "/a"}, request{method: c.request, path: "/b"}, false)
		wantRoute(t, api.Route{Method: c.route, Path: "/", Prefix: true, Field: "A"}, request{c.request, "/b", list("a: 1")}, c.counts)
	}
}

// Paths: whether one counts without Prefix, and with it.
func TestPaths(t *testing.T) {
	for _, c := range []struct {
		route, request string
		alone, prefix  bool
	}{
		{"/a", "/a", true, true}, {"/a", "/a/", false, true}, {"/a", "/a/b", false, true}, {"/a", "/a/b/c", false, true}, {"/a", "/ab", false, false}, {"/a", "/", false, false}, {"/a", "", false, false}, {"/a", "/b/a", false, false}, {"/a", "/A", false, false}, {"/a", "/A/b", false, false},
		{"/a/", "/a/", true, true}, {"/a/", "/a", false, false}, {"/a/", "/a/b", false, true}, {"/a/", "/ab", false, false}, {"/a/", "/a//", false, true}, {"/a/", "/", false, false}, {"/a/", "a/", false, false},
		{"/", "/", true, true}, {"/", "/a", false, true}, {"/", "/a/b", false, true}, {"/", "", false, false}, {"/", "a", false, false}, {"/", "*", false, false},
		{"", "", true, true}, {"", "/", false, true}, {"", "/a", false, true}, {"", "a", false, false}, {"", "*", false, false},
		{"/a/b", "/a", false, false}, {"/a/b", "/a/b", true, true}, {"/a/b", "/a/b/c", false, true}, {"/a/b", "/a/bc", false, false}, {"/a/b", "/a/", false, false},
		{"*", "*", true, true}, {"*", "/", false, false}, {"*", "*/", false, true}, {"/%2F", "/%2F", true, true}, {"/%2F", "/%2f", false, false}, {"/a", "/a?b", false, false}, {"/a", "/a/?b", false, true}, {"a", "a", true, true}, {"a", "a/b", false, true}, {"a", "ab", false, false},
	} {
		for _, method := range []string{"", "GET", "CONNECT"} {
			wantRoute(t, api.Route{Path: c.route, Method: method}, request{method: "GET", path: c.request}, c.alone && method != "CONNECT")
			wantRoute(t, api.Route{Path: c.route, Method: method, Prefix: true}, request{method: "GET", path: c.request}, c.prefix && method != "CONNECT")
			wantRoute(t, api.Route{Path: c.route, Method: method}, request{method: "CONNECT", path: c.request}, c.alone && method != "GET")
			wantRoute(t, api.Route{Path: c.route, Method: method, Prefix: true}, request{method: "CONNECT", path: c.request}, c.prefix && method != "GET")
		}
	}
}

// Fields: any, there or not, in any case; the first one's value.
func TestFields(t *testing.T) {
	for _, c := range []struct {
		field, value string
		fields       []api.Field
		counts       bool
	}{
		{"", "", nil, true}, {"", "", list("A: 1"), true}, {"", "v", nil, true}, {"", "v", list("A: 1"), true}, {"", "v", list(": w"), true},
		{"A", "", nil, false}, {"A", "", []api.Field{}, false}, {"A", "", list("A: 1"), true}, {"A", "", list("a: 1"), true}, {"a", "", list("A: 1"), true}, {"A", "", list("A: "), true}, {"A", "", list("B: 1"), false}, {"A", "", list("AA: 1"), false}, {"AA", "", list("A: 1"), false}, {"A", "", list(": 1"), false},
		{"A", "1", nil, false}, {"A", "1", list("A: 1"), true}, {"A", "1", list("a: 1"), true}, {"a", "1", list("A: 1"), true}, {"A", "1", list("A: 2"), false}, {"A", "1", list("A: "), false}, {"A", "1", list("A: 11"), false}, {"A", "11", list("A: 1"), false}, {"A", "1", list("B: 1"), false}, {"A", "1", list("A:  1"), false},
		{"A", "1", list("A: 1", "A: 2"), true}, {"A", "1", list("A: 2", "A: 1"), false}, {"A", "1", list("a: 1", "A: 2"), true}, {"A", "1", list("a: 2", "A: 1"), false}, {"A", "1", list("A: ", "A: 1"), false}, {"A", "1", list("A: 1", "A: 1"), true}, {"A", "1", list("A: 1, 2"), false}, {"A", "", list("A: ", "A: 1"), true},
		{"A", "1", list("B: 1", "A: 1"), true}, {"A", "1", list("B: 2", "C: 3", "a: 1", "D: 4"), true}, {"A", "1", list("B: 1", "A: 2"), false}, {"A", "v", list("A: V"), false}, {"A", "V", list("A: V"), true}, {"X-Long-Name", "a b", list("x-lONG-nAME: a b"), true}, {"X-Long-Name", "a b", list("x-long_name: a b"), false},
		{"Host", "h", list("Host: h"), true}, {"\xc3\x89", "", list("\xc3\xa9: 1"), false}, {"\xc3\x89", "", list("\xc3\x89: 1"), true}, {"@", "", list("\x60: 1"), false}, {"[", "", list("{: 1"), false}, {"K", "", list("\u212a: 1"), false},
	} {
		wantRoute(t, api.Route{Path: "/a", Field: c.field, Value: c.value}, request{"GET", "/a", c.fields}, c.counts)
		wantRoute(t, api.Route{Path: "/", Prefix: true, Method: "GET", Field: c.field, Value: c.value}, request{"GET", "/a", c.fields}, c.counts)
		wantRoute(t, api.Route{Path: "/a", Field: c.field, Value: c.value}, request{"GET", "/b", c.fields}, false)
		wantRoute(t, api.Route{Path: "/a", Method: "PUT", Field: c.field, Value: c.value}, request{"GET", "/a", c.fields}, false)
	}
}

// Each letter of a field's name may be of either case; no other byte has a case.
func TestFieldsOfEachByte(t *testing.T) {
	for i := range 256 {
		for k := range 256 {
			r := api.Route{Field: string([]byte{'x', byte(i)}), Value: "1"}
			checkFind(t, routed(r), "GET", "h", "", []api.Field{{Name: string([]byte{'X', byte(k)}), Value: "1"}})
			r = api.Route{Field: "A", Value: string([]byte{byte(i)}), Method: string([]byte{byte(i)})}
			checkFind(t, routed(r), string([]byte{byte(i)}), "h", "", []api.Field{{Name: "A", Value: string([]byte{byte(k)})}})
			checkFind(t, routed(r), string([]byte{byte(k)}), "h", "", []api.Field{{Name: "A", Value: string([]byte{byte(i)})}})
		}
	}
}

// Many fields.
func TestManyFields(t *testing.T) {
	r := api.Route{Path: "/", Field: "A", Value: "1"}
	var l []api.Field
	for range 20000 {
		l = append(l, api.Field{Name: "B", Value: "1"})
	}
	wantRoute(t, r, request{"GET", "/", l}, false)
	wantRoute(t, r, request{"GET", "/", append(l, list("A: 1")...)}, true)
	wantRoute(t, r, request{"GET", "/", append(list("a: 2"), append(l, list("A: 1")...)...)}, false)
}

// Of two routes that count the first does.
func TestFirstRoute(t *testing.T) {
	counting := []api.Route{{Path: "/a"}, {Path: "/", Prefix: true}, {Path: "/a", Method: "GET"}, {Path: "/a", Field: "A"}, {Path: "/a", Field: "A", Value: "1"}, {Prefix: true}}
	other := []api.Route{{Path: "/b"}, {Path: "/a", Method: "PUT"}, {Path: "/a", Field: "B"}, {Path: "/a", Field: "A", Value: "2"}, {Path: "/a/", Prefix: true}, {}}
	for _, first := range counting {
		for _, second := range counting {
			for _, not := range other {
				for n, routes := range [][]api.Route{{first, second, not}, {not, first, second}, {not, not, first, not, second}} {
					v, r, ok := route.Find(routed(routes...), "GET", "h", "/a", list("A: 1"))
					if v != 0 || r != n || !ok {
						t.Errorf("Find(%v) = %d, %d, %v, not 0, %d, true", routes, v, r, ok, n)
					}
				}
			}
		}
	}
}

// The vhost is chosen ahead of its routes: where it has none that counts, no other vhost's does.
func TestVhostFirst(t *testing.T) {
	all := []api.Route{{Prefix: true}}
	for _, none := range [][]api.Route{nil, {}, {{Path: "/b"}}, {{Method: "PUT", Prefix: true}}, {{Prefix: true, Field: "B"}}} {
		for _, c := range []struct {
			host    string
			domains []string
		}{
			{"a.b", []string{"a.b", "*.b", "*"}}, {"a.b", []string{"*.b", "*", "b"}}, {"a.b", []string{"a.b", "*", "a.b"}}, {"a.b", []string{"*", "*", "*.c"}}, {"a.b.c", []string{"*.b.c", "*.c", "*"}},
		} {
			for _, domains := range orders(c.domains) {
				config := domained(domains...)
				best := domain(config, c.host)
				for i := range config.Vhosts {
					config.Vhosts[i].Routes = all
				}
				config.Vhosts[best].Routes = none
				if v, r, ok := route.Find(config, "GET", c.host, "/a", nil); v != 0 || r != 0 || ok {
					t.Errorf("Find(%v, %q) = %d, %d, %v, not nothing", config.Vhosts, c.host, v, r, ok)
				}
			}
		}
	}
}

// Where no vhost fits nothing is found.
func TestNoVhost(t *testing.T) {
	for _, c := range []api.Config{{}, {Vhosts: []api.Vhost{}}, domained("a"), domained("*.h", "h.", "H"), domained("")} {
		if v, r, ok := route.Find(c, "GET", "h", "/", nil); v != 0 || r != 0 || ok {
			t.Errorf("Find(%v) = %d, %d, %v, not nothing", c.Vhosts, v, r, ok)
		}
	}
}

// A config that is read from text, right as it is, with all of its ways.
func TestRightConfig(t *testing.T) {
	c, _, e := config.Parse("listen 4 100 50 20 2 7\ncluster up 1 2 1 30 3 100 50 a:80\ncluster down 1 2 1 30 3 100 50 a:80\n" +
		"vhost *\nroute 0 - CONNECT - - 1 up 0 - - 0 60 0\nroute 1 / - - - 1 up 0 - - 1 60 0\n" +
		"vhost *.ex.com\nroute 1 /api GET - - 1 down 0 - /x 1 60 0\nroute 0 /api - X-A 1 3 - 200 - - 0 0 0\n")
	if e != api.OK {
		t.Fatal(e)
	}
	for _, q := range []struct {
		method, host, path string
		fields             []api.Field
		v, r               int
		ok                 bool
	}{
		{"CONNECT", "a", "", nil, 0, 0, true}, {"GET", "a", "/", nil, 0, 1, true}, {"CONNECT", "a.ex.com", "", nil, 0, 0, false}, {"GET", "a.ex.com", "/api", nil, 1, 0, true}, {"GET", "a.ex.com", "/api/v", nil, 1, 0, true}, {"GET", "a.ex.com", "/", nil, 0, 0, false},
		{"POST", "a.ex.com", "/api", list("x-a: 1"), 1, 1, true}, {"POST", "a.ex.com", "/api", list("x-a: 2"), 0, 0, false}, {"POST", "a.ex.com", "/api/v", list("x-a: 1"), 0, 0, false}, {"POST", "ex.com", "/api/v", list("x-a: 1"), 0, 1, true}, {"CONNECT", "a", "/", nil, 0, 1, true}, {"OPTIONS", "", "*", nil, 0, 0, false},
	} {
		if v, r, ok := route.Find(c, q.method, q.host, q.path, q.fields); v != q.v || r != q.r || ok != q.ok {
			t.Errorf("Find(.., %v) = %d, %d, %v", q, v, r, ok)
		}
	}
	if route.Cluster(c, "up") != 0 || route.Cluster(c, "down") != 1 || route.Rewrite(c.Vhosts[1].Routes[0], "/api/v") != "/x/v" {
		t.Error("clusters or the rewritten path are wrong")
	}
}

// drawRoute draws a route.
func drawRoute(d *dice.Dice) api.Route {
	return api.Route{Prefix: d.Below(2) > 0, Path: drawPath(d), Method: pick(d, "", "", "GET", "get", "PUT", "CONNECT"), Field: pick(d, "", "", "A", "a", "B", "AB"), Value: pick(d, "", "1", "2"), Rewrite: drawPath(d),
		Action: d.Below(5) - 1, Cluster: pick(d, "", "up"), Status: d.Below(600), Text: pick(d, "", "t"), Retries: math.MinInt + d.Below(9), Timeout: math.MaxInt - d.Below(9), Upgrade: d.Below(2) > 0}
}

// drawPath draws a path, right or not.
func drawPath(d *dice.Dice) string {
	var s strings.Builder
	s.WriteString(pick(d, "", "/", "/", "/"))
	for range d.Below(4) {
		s.WriteString(pick(d, "/", "/", "a", "a", "b"))
	}
	return s.String()
}

// drawFields draws a list of fields, with spare room.
func drawFields(d *dice.Dice) []api.Field {
	l := make([]api.Field, 0, 8)
	for range d.Below(5) {
		l = append(l, api.Field{Name: pick(d, "A", "a", "B", "b", "ab", "", "C"), Value: pick(d, "", "1", "2", "3")})
	}
	return l
}

// drawConfig draws a config, right or not.
func drawConfig(d *dice.Dice) api.Config {
	c := api.Config{Conns: d.Below(3) - 1, Body: -d.Below(9), Seed: math.MaxInt}
	for range d.Below(5) {
		v := api.Vhost{Domain: pick(d, "", "*", "*", "*.a", "*.b", "*.a.b", "a", "b.a", "*.")}
		for range d.Below(6) {
			v.Routes = append(v.Routes, drawRoute(d))
		}
		c.Vhosts = append(c.Vhosts, v)
	}
	for range d.Below(5) {
		c.Clusters = append(c.Clusters, api.Cluster{Name: pick(d, "", "up", "Up", "b", "a"), Policy: d.Below(9), Hosts: []string{"a:80"}})
	}
	return c
}

// Configs and requests by chance, right or not; nothing that is handed in changes.
func TestDrawn(t *testing.T) {
	d := dice.New(1)
	for range 30000 {
		c, l := drawConfig(d), drawFields(d)
		config, fields := copied(c), slices.Clone(l[:cap(l)])
		for range 4 {
			method, host, path := pick(d, "GET", "get", "PUT", "CONNECT", ""), pick(d, "", "a", "b.a", "a.a.b", "c.a", "c.b", "a."), drawPath(d)
			checkDomain(t, c, host)
			checkFind(t, c, method, host, path, l)
		}
		name := pick(d, "", "up", "Up", "b", "a", "UP", "c")
		if got, want := route.Cluster(c, name), cluster(c, name); got != want {
			t.Fatalf("Cluster(%v, %q) = %d, not %d", c.Clusters, name, got, want)
		}
		r := drawRoute(d)
		checkRewrite(t, r, drawPath(d))
		checkRewrite(t, r, r.Path+drawPath(d))
		if !reflect.DeepEqual(c, config) || !slices.Equal(l[:cap(l)], fields) {
			t.Fatalf("what was handed in has changed: %v, %v", c, l)
		}
	}
}

// A call hangs on nothing that was asked ahead of it.
func TestSameAgain(t *testing.T) {
	c := routed(api.Route{Path: "/a"}, api.Route{Prefix: true})
	for range 3 {
		if v, r, ok := route.Find(c, "GET", "h", "/a", nil); v != 0 || r != 0 || !ok {
			t.Errorf("Find = %d, %d, %v", v, r, ok)
		}
		if v, r, ok := route.Find(c, "GET", "h", "/b", nil); v != 0 || r != 1 || !ok {
			t.Errorf("Find = %d, %d, %v", v, r, ok)
		}
		if v, r, ok := route.Find(c, "GET", "h", "b", nil); v != 0 || r != 0 || ok {
			t.Errorf("Find = %d, %d, %v", v, r, ok)
		}
	}
}
