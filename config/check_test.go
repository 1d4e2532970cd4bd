package config_test

import (
	"math"
	"slices"
	"strings"
	"testing"

	"barbican/api"
	"barbican/config"
)

// long is a text of n bytes.
func long(n int) string {
	return strings.Repeat("a", n)
}

// forward, redirect and direct are right routes, each with as little as it may have.

func forward() api.Route {
	return api.Route{Prefix: true, Path: "/", Action: api.Forward, Cluster: "up", Timeout: 60}
}

func redirect() api.Route {
	return api.Route{Prefix: true, Path: "/", Action: api.Redirect, Status: 302, Text: "/there"}
}

func direct() api.Route {
	return api.Route{Prefix: true, Path: "/", Action: api.Direct, Status: 403}
}

// tunnel is a right route of the method CONNECT.
func tunnel() api.Route {
	return api.Route{Method: "CONNECT", Action: api.Forward, Cluster: "up", Timeout: 60}
}

// cluster is a right cluster of that name.
func cluster(name string) api.Cluster {
	return api.Cluster{Name: name, Policy: api.RoundRobin, Hosts: []string{"a:80", "b:80"}, Conns: 2, Pending: 1, Try: 30, Fails: 3, Eject: 100, Panic: 50}
}

// bare is a right config of nothing but its numbers.
func bare() api.Config {
	return api.Config{Conns: 2, Body: 100, Idle: 50, Grace: 20, Budget: 2, Seed: 7}
}

// small is a right config with one of each: a filter, a cluster, a vhost with a route.
func small() api.Config {
	c := bare()
	c.Filters = []api.Filter{{Kind: api.FilterSet, Name: "X-A", Value: "1"}}
	c.Clusters = []api.Cluster{cluster("up")}
	c.Vhosts = []api.Vhost{{Domain: "*", Routes: []api.Route{forward()}}}
	return c
}

// whole is a right config with all there is, each thing another than the others; new memory in each call.
func whole() api.Config {
	return api.Config{
		Conns: 3, Body: 1000, Idle: 51, Grace: 21, Budget: 4, Seed: 9,
		Filters: []api.Filter{
			{Kind: api.FilterSet, Name: "X-A", Value: "1 \t2"}, {Kind: api.FilterDrop, Name: "Cookie"}, {Kind: api.FilterLimit, N: 10, M: 2, K: 5},
			{Kind: api.FilterToken, Name: "X-Key", Value: "s%t"}, {Kind: api.FilterCors, Value: "*"}, {Kind: api.FilterBody, N: 500},
			{Kind: api.FilterFault, N: 5, M: 503}, {Kind: api.FilterAnswer, Name: "Server", Value: "b"}, {Kind: api.FilterAnswer, Name: "X-Empty"},
		},
		Clusters: []api.Cluster{
			{Name: "up", Policy: api.RoundRobin, Hosts: []string{"a:80"}, Conns: 1, Pending: 2, Try: 30, Fails: 3, Eject: 100, Panic: 50},
			{Name: "-", Policy: api.Ring, Hosts: []string{"b.ex.com:8080", "b.ex.com:8081", "10.0.0.1:1"}, Conns: 64, Pending: 0, Try: 31, Fails: 4, Eject: 101, Panic: 0},
			{Name: "Up", Policy: api.LeastBusy, Hosts: []string{"c:65535"}, Conns: 6, Pending: 7, Try: 8, Fails: 9, Eject: 10, Panic: 11},
		},
		Vhosts: []api.Vhost{
			{Domain: "*.ex.com", Routes: []api.Route{
				{Prefix: true, Path: "/api/", Method: "GET", Field: "X-V", Value: "2 b", Action: api.Forward, Cluster: "-", Rewrite: "/v2/%2F", Retries: 2, Timeout: 61, Upgrade: true},
				{Path: "/%20", Method: "POST", Field: "X-V", Action: api.Direct, Status: 404, Text: "not here"},
			}},
			{Domain: "ex.com", Routes: []api.Route{{Path: "/old", Action: api.Redirect, Status: 308, Text: "http://ex.com/new?x=1"}}},
			{Domain: "*", Routes: []api.Route{
				{Method: "CONNECT", Action: api.Forward, Cluster: "up", Timeout: 62},
				{Method: "CONNECT", Path: "/", Action: api.Direct, Status: 403},
				{Prefix: true, Path: "/", Action: api.Forward, Cluster: "Up", Retries: 1, Timeout: 60},
			}},
		},
	}
}

// with is small with a route in the place of its own, the cluster being up.
func with(r api.Route) api.Config {
	c := small()
	c.Vhosts[0].Routes[0] = r
	return c
}

// filtered is bare with these filters.
func filtered(list ...api.Filter) api.Config {
	c := bare()
	c.Filters = list
	return c
}

// hosted is small with these hosts of its cluster.
func hosted(hosts ...string) api.Config {
	c := small()
	c.Clusters[0].Hosts = hosts
	return c
}

// named is small with domains of these names, each with a route.
func named(domains ...string) api.Config {
	c := small()
	c.Vhosts = nil
	for _, d := range domains {
		c.Vhosts = append(c.Vhosts, api.Vhost{Domain: d, Routes: []api.Route{forward()}})
	}
	return c
}

// wantCheck wants that error of a config; and, where it can be written, the same of what is read of its text.
func wantCheck(t *testing.T, c api.Config, e api.Errno) {
	t.Helper()
	if got := config.Check(c); got != e {
		t.Errorf("Check(%+v) is %d, want %d", c, got, e)
	}
	checkConfig(t, c)
}

// checkConfig holds Check, Print and Parse of a config against what they are to answer.
func checkConfig(t *testing.T, c api.Config) {
	t.Helper()
	e := judged(c)
	if got := config.Check(c); got != e {
		t.Fatalf("Check(%+v) is %d, want %d", c, got, e)
	}
	text := config.Print(c)
	if e == api.OK && text != printOf(c) {
		t.Fatalf("Print(%+v) is %q, want %q", c, text, printOf(c))
	}
	if !printable(c) {
		return
	}
	if e != api.OK {
		c = api.Config{}
	}
	got, line, what := config.Parse(text)
	if !same(got, c) || line != 0 || what != e {
		t.Fatalf("Parse(%q) is %+v, %d, %d, want %+v, 0, %d", text, got, line, what, c, e)
	}
}

// P14.1: what is right.
func TestRightConfigs(t *testing.T) {
	wantCheck(t, bare(), api.OK)
	wantCheck(t, small(), api.OK)
	wantCheck(t, whole(), api.OK)
	for _, r := range []api.Route{forward(), redirect(), direct(), tunnel()} {
		wantCheck(t, with(r), api.OK)
	}
	c := bare()
	c.Filters, c.Clusters, c.Vhosts = []api.Filter{}, []api.Cluster{}, []api.Vhost{}
	wantCheck(t, c, api.OK)
	wantCheck(t, api.Config{}, api.ErrBounds)
	// Of the document's ten examples.
	c = bare()
	c.Clusters = []api.Cluster{{Name: "up", Policy: 1, Hosts: []string{"a:80"}, Conns: 1, Pending: 1, Try: 30, Fails: 3, Eject: 100, Panic: 50}}
	c.Vhosts = []api.Vhost{{Domain: "*", Routes: []api.Route{
		{Method: "CONNECT", Action: 1, Cluster: "up", Timeout: 60},
		{Prefix: true, Path: "/", Action: 1, Cluster: "up", Retries: 1, Timeout: 60, Upgrade: true},
	}}}
	wantCheck(t, c, api.OK)
}

// bound is a number of a config, with its bounds and what is said beyond them.
type bound struct {
	what        string
	set         func(c *api.Config, n int)
	least, most int
	e           api.Errno
}

// bounds are all numbers of the config whole that have two bounds, but for those of kinds.
func bounds() []bound {
	return []bound{
		{"Conns", func(c *api.Config, n int) { c.Conns = n }, 1, 256, api.ErrBounds},
		{"Body", func(c *api.Config, n int) { c.Body = n }, 0, 65536, api.ErrBounds},
		{"Idle", func(c *api.Config, n int) { c.Idle = n }, 1, 1 << 20, api.ErrBounds},
		{"Grace", func(c *api.Config, n int) { c.Grace = n }, 1, 1 << 20, api.ErrBounds},
		{"Budget", func(c *api.Config, n int) { c.Budget = n }, 0, 256, api.ErrBounds},
		{"Seed", func(c *api.Config, n int) { c.Seed = n }, 0, 1 << 40, api.ErrBounds},
		{"a limit's N", func(c *api.Config, n int) { c.Filters[2].N = n }, 1, 1 << 30, api.ErrFilter},
		{"a limit's M", func(c *api.Config, n int) { c.Filters[2].M = n }, 1, 1 << 30, api.ErrFilter},
		{"a limit's K", func(c *api.Config, n int) { c.Filters[2].K = n }, 1, 1 << 30, api.ErrFilter},
		{"a body's N", func(c *api.Config, n int) { c.Filters[5].N = n }, 0, 65536, api.ErrFilter},
		{"a fault's N", func(c *api.Config, n int) { c.Filters[6].N = n }, 0, 100, api.ErrFilter},
		{"a fault's M", func(c *api.Config, n int) { c.Filters[6].M = n }, 400, 599, api.ErrFilter},
		{"a cluster's Policy", func(c *api.Config, n int) { c.Clusters[1].Policy = n }, 1, 4, api.ErrCluster},
		{"a cluster's Conns", func(c *api.Config, n int) { c.Clusters[0].Conns = n }, 1, 64, api.ErrCluster},
		{"a cluster's Pending", func(c *api.Config, n int) { c.Clusters[1].Pending = n }, 0, 256, api.ErrCluster},
		{"a cluster's Try", func(c *api.Config, n int) { c.Clusters[2].Try = n }, 1, 1 << 20, api.ErrCluster},
		{"a cluster's Fails", func(c *api.Config, n int) { c.Clusters[0].Fails = n }, 1, 1000, api.ErrCluster},
		{"a cluster's Eject", func(c *api.Config, n int) { c.Clusters[1].Eject = n }, 1, 1 << 20, api.ErrCluster},
		{"a cluster's Panic", func(c *api.Config, n int) { c.Clusters[2].Panic = n }, 0, 100, api.ErrCluster},
		{"a route's Retries", func(c *api.Config, n int) { c.Vhosts[0].Routes[0].Retries = n }, 0, 5, api.ErrRoute},
		{"a route's Timeout", func(c *api.Config, n int) { c.Vhosts[2].Routes[2].Timeout = n }, 1, 1 << 20, api.ErrRoute},
		{"a tunnel's Timeout", func(c *api.Config, n int) { c.Vhosts[2].Routes[0].Timeout = n }, 1, 1 << 20, api.ErrRoute},
		{"a tunnel's Retries", func(c *api.Config, n int) { c.Vhosts[2].Routes[0].Retries = n }, 0, 0, api.ErrRoute},
		{"a tunnel's Status", func(c *api.Config, n int) { c.Vhosts[2].Routes[0].Status = n }, 0, 0, api.ErrRoute},
		{"a forward's Status", func(c *api.Config, n int) { c.Vhosts[2].Routes[2].Status = n }, 0, 0, api.ErrRoute},
		{"a redirect's Status", func(c *api.Config, n int) { c.Vhosts[1].Routes[0].Status = n }, 307, 308, api.ErrRoute},
		{"a redirect's other Status", func(c *api.Config, n int) { c.Vhosts[1].Routes[0].Status = n }, 301, 302, api.ErrRoute},
		{"a redirect's Retries", func(c *api.Config, n int) { c.Vhosts[1].Routes[0].Retries = n }, 0, 0, api.ErrRoute},
		{"a redirect's Timeout", func(c *api.Config, n int) { c.Vhosts[1].Routes[0].Timeout = n }, 0, 0, api.ErrRoute},
		{"a reply's Status", func(c *api.Config, n int) { c.Vhosts[0].Routes[1].Status = n }, 305, 599, api.ErrRoute},
		{"a reply's lower Status", func(c *api.Config, n int) { c.Vhosts[0].Routes[1].Status = n }, 205, 303, api.ErrRoute},
		{"a reply's least Status", func(c *api.Config, n int) { c.Vhosts[0].Routes[1].Status = n }, 200, 203, api.ErrRoute},
		{"a tunnel's reply's Status", func(c *api.Config, n int) { c.Vhosts[2].Routes[1].Status = n }, 300, 303, api.ErrRoute},
		{"a tunnel's reply's greater Status", func(c *api.Config, n int) { c.Vhosts[2].Routes[1].Status = n }, 305, 599, api.ErrRoute},
		{"a reply's Retries", func(c *api.Config, n int) { c.Vhosts[0].Routes[1].Retries = n }, 0, 0, api.ErrRoute},
		{"a reply's Timeout", func(c *api.Config, n int) { c.Vhosts[0].Routes[1].Timeout = n }, 0, 0, api.ErrRoute},
		{"an Action", func(c *api.Config, n int) { c.Vhosts[2].Routes[2].Action = n }, 1, 1, api.ErrRoute},
	}
}

// Each number at each of its bounds, and one past it, and far past it.
func TestNumbersAtTheirBounds(t *testing.T) {
	for _, b := range bounds() {
		for _, n := range []int{b.least, b.most, (b.least + b.most) / 2} {
			c := whole()
			b.set(&c, n)
			if got := config.Check(c); got != api.OK {
				t.Errorf("%s of %d: %d, want 0", b.what, n, got)
			}
			wantCheck(t, c, api.OK)
		}
		for _, n := range []int{b.least - 1, b.most + 1, b.least - 1<<32, b.most + 1<<32, b.least - 1<<41, b.most + 1<<41, math.MinInt, math.MaxInt} {
			c := whole()
			b.set(&c, n)
			if got := config.Check(c); got != b.e {
				t.Errorf("%s of %d: %d, want %d", b.what, n, got, b.e)
			}
			wantCheck(t, c, b.e)
		}
	}
}

// times is a list of n items.
func times[T any](n int, item func(i int) T) []T {
	var list []T
	for i := range n {
		list = append(list, item(i))
	}
	return list
}

// digits is a number of two digits as a text.
func digits(i int) string {
	return string([]byte{byte('0' + i/10), byte('0' + i%10)})
}

// Lists of none, of the most items, and of one more.
func TestLongLists(t *testing.T) {
	for _, n := range []int{0, 1, 31, 32, 33, 34, 100} {
		e, eRoutes := api.OK, api.OK
		if n > 32 {
			e, eRoutes = api.ErrBounds, api.ErrRoute
		}
		if n == 0 {
			eRoutes = api.ErrRoute
		}
		c := bare()
		c.Filters = times(n, func(int) api.Filter { return api.Filter{Kind: api.FilterBody} })
		wantCheck(t, c, e)
		c = bare()
		c.Clusters = times(n, func(i int) api.Cluster { return cluster("up" + digits(i)) })
		wantCheck(t, c, e)
		c = bare()
		c.Vhosts = times(n, func(i int) api.Vhost { return api.Vhost{Domain: "h" + digits(i), Routes: []api.Route{direct()}} })
		wantCheck(t, c, e)
		c = small()
		c.Vhosts[0].Routes = times(n, func(int) api.Route { return forward() })
		wantCheck(t, c, eRoutes)
	}
	for _, n := range []int{0, 1, 2, 15, 16, 17, 18, 33, 90} {
		e := api.OK
		if n < 1 || n > 16 {
			e = api.ErrCluster
		}
		wantCheck(t, hosted(times(n, func(i int) string { return "h:" + digits(i+10) })...), e)
	}
	// All lists at their most.
	c := bare()
	c.Filters = times(32, func(int) api.Filter { return api.Filter{Kind: api.FilterDrop, Name: long(32)} })
	c.Clusters = times(32, func(i int) api.Cluster {
		one := cluster(long(30) + digits(i))
		one.Hosts = times(16, func(j int) string { return long(62) + digits(j) + ":65535" })
		return one
	})
	c.Vhosts = times(32, func(i int) api.Vhost {
		return api.Vhost{Domain: "*." + long(62) + digits(i), Routes: times(32, func(j int) api.Route {
			return api.Route{Path: "/" + long(300), Method: long(16), Field: long(32), Value: long(256), Action: api.Forward, Cluster: c.Clusters[j].Name, Rewrite: "/" + long(400), Timeout: 1}
		})}
	})
	wantCheck(t, c, api.OK)
	// An item that is wrong behind others that are right, and a whole list too long of wrong items.
	for _, i := range []int{0, 1, 30, 31} {
		wrong := c
		wrong.Filters = slices.Clone(c.Filters)
		wrong.Filters[i].Kind = 0
		wantCheck(t, wrong, api.ErrFilter)
		wrong = c
		wrong.Clusters = slices.Clone(c.Clusters)
		wrong.Clusters[i].Fails = 0
		wantCheck(t, wrong, api.ErrCluster)
		wrong = c
		wrong.Vhosts = slices.Clone(c.Vhosts)
		wrong.Vhosts[i].Routes = slices.Clone(c.Vhosts[i].Routes)
		wrong.Vhosts[i].Routes[31-i].Status = 200
		wantCheck(t, wrong, api.ErrRoute)
		wrong.Vhosts[i].Routes = nil
		wantCheck(t, wrong, api.ErrRoute)
	}
	c.Filters = make([]api.Filter, 33)
	wantCheck(t, c, api.ErrBounds)
}

// broken is something that makes the config whole wrong.
type broken struct {
	what  string
	do    func(c *api.Config)
	place []int
	e     api.Errno
}

// brokens are things that make the config whole wrong, in the order in which they are to be told.
func brokens() []broken {
	return []broken{
		{"Conns", func(c *api.Config) { c.Conns = 0 }, []int{1, 0}, api.ErrBounds},
		{"Seed", func(c *api.Config) { c.Seed = -1 }, []int{1, 0}, api.ErrBounds},
		{"filters", func(c *api.Config) { c.Filters = append(c.Filters, make([]api.Filter, 30)...) }, []int{1, 0}, api.ErrBounds},
		{"clusters", func(c *api.Config) { c.Clusters = append(c.Clusters, make([]api.Cluster, 30)...) }, []int{1, 0}, api.ErrBounds},
		{"vhosts", func(c *api.Config) { c.Vhosts = append(c.Vhosts, make([]api.Vhost, 30)...) }, []int{1, 0}, api.ErrBounds},
		{"the first filter", func(c *api.Config) { c.Filters[0].Name = "" }, []int{2, 0}, api.ErrFilter},
		{"the last filter", func(c *api.Config) { c.Filters[8].K = 1 }, []int{2, 8}, api.ErrFilter},
		{"the first cluster's Name", func(c *api.Config) { c.Clusters[0].Name = "a b" }, []int{3, 0, 0}, api.ErrName},
		{"the first cluster's Hosts", func(c *api.Config) { c.Clusters[0].Hosts[0] = "a" }, []int{3, 0, 1}, api.ErrCluster},
		{"the first cluster's Panic", func(c *api.Config) { c.Clusters[0].Panic = 101 }, []int{3, 0, 1}, api.ErrCluster},
		{"the second cluster's Name", func(c *api.Config) { c.Clusters[1].Name = "" }, []int{3, 1, 0}, api.ErrName},
		{"the second cluster's Policy", func(c *api.Config) { c.Clusters[1].Policy = 5 }, []int{3, 1, 1}, api.ErrCluster},
		{"the third cluster's Name", func(c *api.Config) { c.Clusters[2].Name = long(33) }, []int{3, 2, 0}, api.ErrName},
		{"the third cluster's Hosts", func(c *api.Config) { c.Clusters[2].Hosts = nil }, []int{3, 2, 1}, api.ErrCluster},
		{"the first Domain", func(c *api.Config) { c.Vhosts[0].Domain = "" }, []int{4, 0, 0}, api.ErrName},
		{"the first vhost's first Path", func(c *api.Config) { c.Vhosts[0].Routes[0].Path = "" }, []int{4, 0, 1}, api.ErrRoute},
		{"the first vhost's second Status", func(c *api.Config) { c.Vhosts[0].Routes[1].Status = 204 }, []int{4, 0, 1}, api.ErrRoute},
		{"the second Domain", func(c *api.Config) { c.Vhosts[1].Domain = "Ex.com" }, []int{4, 1, 0}, api.ErrName},
		{"the second vhost's Routes", func(c *api.Config) { c.Vhosts[1].Routes = nil }, []int{4, 1, 1}, api.ErrRoute},
		{"the third Domain", func(c *api.Config) { c.Vhosts[2].Domain = "**" }, []int{4, 2, 0}, api.ErrName},
		{"the third vhost's last Timeout", func(c *api.Config) { c.Vhosts[2].Routes[2].Timeout = 0 }, []int{4, 2, 1}, api.ErrRoute},
	}
}

// Of two things that are wrong at once the first is told, in one list and in two; of three, too.
func TestOrder(t *testing.T) {
	all := brokens()
	for _, a := range all {
		c := whole()
		a.do(&c)
		wantCheck(t, c, a.e)
		for _, b := range all {
			c, first := whole(), a
			if slices.Compare(b.place, a.place) < 0 {
				first = b
			}
			a.do(&c)
			b.do(&c)
			if got := config.Check(c); got != first.e {
				t.Errorf("%s and %s: %d, want %d", a.what, b.what, got, first.e)
			}
			wantCheck(t, c, first.e)
		}
	}
	// All at once, but for those ahead.
	for i := range all {
		c := whole()
		for _, b := range slices.Backward(all[i:]) {
			b.do(&c)
		}
		wantCheck(t, c, all[i].e)
	}
}
