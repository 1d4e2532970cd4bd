package route_test

import (
	"slices"
	"strings"
	"testing"

	"barbican/api"
	"barbican/dice"
	"barbican/route"
)

// What the chapter says, told another way: of a host the domains that may count are written down, the best first; a route is held against a request by a list of all that speaks against it; where two texts meet the slashes are counted.

// domainsFor are the domains that fit a host, the best first.
func domainsFor(host string) []string {
	list := []string{host}
	for i := range len(host) {
		if i > 0 && host[i] == '.' {
			list = append(list, "*"+host[i:])
		}
	}
	return append(list, "*")
}

// domain is the number of the vhost that counts; -1, if none does.
func domain(c api.Config, host string) int {
	for _, d := range domainsFor(host) {
		for i := range c.Vhosts {
			if c.Vhosts[i].Domain == d {
				return i
			}
		}
	}
	return -1
}

// small is s with small letters for large ones.
func small(s string) string {
	b := []byte(s)
	for i := range b {
		if b[i] >= 'A' && b[i] <= 'Z' {
			b[i] += 'a' - 'A'
		}
	}
	return string(b)
}

// above tells whether a prefix is above a path.
func above(prefix string, path string) bool {
	for _, p := range []string{prefix + "/", prefix} {
		if strings.HasPrefix(path, p) && strings.HasSuffix(p, "/") {
			return true
		}
	}
	return path == prefix
}

// against is how much of a route speaks against a request.
func against(r api.Route, method string, path string, list []api.Field) int {
	n := 0
	if r.Method != "" && r.Method != method {
		n++
	}
	if r.Prefix && !above(r.Path, path) || !r.Prefix && r.Path != path {
		n++
	}
	var values []string
	for _, f := range list {
		if small(f.Name) == small(r.Field) {
			values = append(values, f.Value)
		}
	}
	if r.Field != "" && len(values) == 0 {
		n++
	}
	if r.Field != "" && len(values) > 0 && r.Value != "" && values[0] != r.Value {
		n++
	}
	return n
}

// find are the numbers of the vhost and the route that count.
func find(c api.Config, method string, host string, path string, list []api.Field) (int, int, bool) {
	v := domain(c, host)
	if v >= 0 {
		for i, r := range c.Vhosts[v].Routes {
			if against(r, method, path, list) == 0 {
				return v, i, true
			}
		}
	}
	return 0, 0, false
}

// rewrite is where a path goes.
func rewrite(r api.Route, path string) string {
	to, rest := r.Rewrite, ""
	if r.Prefix && len(path) >= len(r.Path) && path[:len(r.Path)] == r.Path {
		rest = path[len(r.Path):]
	}
	if to == "" {
		return path
	}
	if rest == "" {
		return to
	}
	slashes := 0
	if to[len(to)-1] == '/' {
		slashes++
	}
	if rest[0] == '/' {
		slashes++
	}
	switch slashes {
	case 0:
		return to + "/" + rest
	case 1:
		return to + rest
	}
	return to + rest[1:]
}

// cluster is the number of the cluster of that name.
func cluster(c api.Config, name string) int {
	n := -1
	for i := len(c.Clusters) - 1; i >= 0; i-- {
		if c.Clusters[i].Name == name {
			n = i
		}
	}
	return n
}

// copied is the config in memory of its own.
func copied(c api.Config) api.Config {
	c.Filters = slices.Clone(c.Filters)
	c.Clusters = slices.Clone(c.Clusters)
	for i := range c.Clusters {
		c.Clusters[i].Hosts = slices.Clone(c.Clusters[i].Hosts)
	}
	c.Vhosts = slices.Clone(c.Vhosts)
	for i := range c.Vhosts {
		c.Vhosts[i].Routes = slices.Clone(c.Vhosts[i].Routes)
	}
	return c
}

// domained is a config with these domains, each with one route that any request of the method GET takes.
func domained(domains ...string) api.Config {
	var c api.Config
	for _, d := range domains {
		c.Vhosts = append(c.Vhosts, api.Vhost{Domain: d, Routes: []api.Route{{Prefix: true, Method: "GET"}}})
	}
	return c
}

// routed is a config with these routes for every host.
func routed(routes ...api.Route) api.Config {
	return api.Config{Vhosts: []api.Vhost{{Domain: "*", Routes: routes}}}
}

// list are fields, of texts "name: value".
func list(texts ...string) []api.Field {
	var l []api.Field
	for _, t := range texts {
		name, value, _ := strings.Cut(t, ": ")
		l = append(l, api.Field{Name: name, Value: value})
	}
	return l
}

// wantDomain wants a vhost to count, and Find to keep to it: a request takes its first route, or none.
func wantDomain(t *testing.T, c api.Config, host string, want int) {
	t.Helper()
	if got := route.Domain(c, host); got != want {
		t.Errorf("Domain(%q, %q) = %d, not %d", domainsOf(c), host, got, want)
	}
	v, r, ok := route.Find(c, "GET", host, "/", nil)
	if ok != (want >= 0) || v != max(want, 0) || r != 0 {
		t.Errorf("Find(%q, GET, %q, /) = %d, %d, %v; the vhost is %d", domainsOf(c), host, v, r, ok, want)
	}
	if v, r, ok := route.Find(c, "PUT", host, "/", nil); v != 0 || r != 0 || ok {
		t.Errorf("Find(%q, PUT, %q, /) = %d, %d, %v, not nothing", domainsOf(c), host, v, r, ok)
	}
}

// domainsOf are the config's domains.
func domainsOf(c api.Config) []string {
	var l []string
	for _, v := range c.Vhosts {
		l = append(l, v.Domain)
	}
	return l
}

// checkDomain holds Domain against the model.
func checkDomain(t *testing.T, c api.Config, host string) {
	t.Helper()
	if got, want := route.Domain(c, host), domain(c, host); got != want {
		t.Fatalf("Domain(%q, %q) = %d, not %d", domainsOf(c), host, got, want)
	}
}

// checkFind holds Find against the model.
func checkFind(t *testing.T, c api.Config, method string, host string, path string, l []api.Field) {
	t.Helper()
	v, r, ok := route.Find(c, method, host, path, l)
	wantV, wantR, wantOk := find(c, method, host, path, l)
	if v != wantV || r != wantR || ok != wantOk {
		t.Fatalf("Find(%v, %q, %q, %q, %q) = %d, %d, %v, not %d, %d, %v", c.Vhosts, method, host, path, l, v, r, ok, wantV, wantR, wantOk)
	}
}

// checkRewrite holds Rewrite against the model.
func checkRewrite(t *testing.T, r api.Route, path string) {
	t.Helper()
	if got, want := route.Rewrite(r, path), rewrite(r, path); got != want {
		t.Fatalf("Rewrite(%v %q to %q, %q) = %q, not %q", r.Prefix, r.Path, r.Rewrite, path, got, want)
	}
}

// texts are all texts of these pieces, of at most so many.
func texts(of []string, most int) []string {
	all := []string{""}
	last := all
	for range most {
		var next []string
		for _, s := range last {
			for _, p := range of {
				next = append(next, s+p)
			}
		}
		all = append(all, next...)
		last = next
	}
	return all
}

// orders are all orders of the texts.
func orders(of []string) [][]string {
	if len(of) == 0 {
		return [][]string{nil}
	}
	var all [][]string
	for i, first := range of {
		for _, rest := range orders(slices.Delete(slices.Clone(of), i, i+1)) {
			all = append(all, append([]string{first}, rest...))
		}
	}
	return all
}

// pick draws one of the texts.
func pick(d *dice.Dice, of ...string) string {
	return of[d.Below(len(of))]
}
