package config_test

import (
	"math"
	"strconv"
	"strings"
	"testing"

	"barbican/api"
	"barbican/config"
)

// theNames are those that are no names of filters' fields.
const theNames = "Host, Content-Length, Expect, X-Forwarded-For, Via, Connection, Keep-Alive, Proxy-Connection, TE, Trailer, Transfer-Encoding, Upgrade"

// one is a text of one byte.
func one(c int) string {
	return string([]byte{byte(c)})
}

// cases are ways to write a name: as it is, small, large, and with just one letter of the other case.
func cases(name string) []string {
	low, high := strings.ToLower(name), strings.ToUpper(name)
	ways := []string{name, low, high}
	for i := range len(name) {
		ways = append(ways, low[:i]+high[i:i+1]+low[i+1:], high[:i]+low[i:i+1]+high[i+1:])
	}
	return ways
}

// errorIf is the error, but for what is right.
func errorIf(right bool, e api.Errno) api.Errno {
	if right {
		return api.OK
	}
	return e
}

// wantFilter wants a filter to be right, or not.
func wantFilter(t *testing.T, f api.Filter, right bool) {
	t.Helper()
	wantCheck(t, filtered(f), errorIf(right, api.ErrFilter))
	// Among others that are right, it is the one that is told.
	wantCheck(t, filtered(api.Filter{Kind: api.FilterDrop, Name: "A"}, f, api.Filter{Kind: api.FilterBody}), errorIf(right, api.ErrFilter))
}

// Filters of each kind with all that they use, and with each thing that they don't.
func TestFilters(t *testing.T) {
	for _, c := range []struct {
		f     api.Filter
		right bool
	}{
		{api.Filter{Kind: 1, Name: "A", Value: "v"}, true}, {api.Filter{Kind: 1, Name: "A"}, true}, {api.Filter{Kind: 1, Value: "v"}, false}, {api.Filter{Kind: 1}, false},
		{api.Filter{Kind: 1, Name: "A", Value: "v", N: 1}, false}, {api.Filter{Kind: 1, Name: "A", Value: "v", M: 1}, false}, {api.Filter{Kind: 1, Name: "A", Value: "v", K: 1}, false}, {api.Filter{Kind: 1, Name: "A", Value: "v", N: -1}, false},
		{api.Filter{Kind: 2, Name: "A"}, true}, {api.Filter{Kind: 2}, false}, {api.Filter{Kind: 2, Name: "A", Value: "v"}, false},
		{api.Filter{Kind: 2, Name: "A", N: 1}, false}, {api.Filter{Kind: 2, Name: "A", M: 1}, false}, {api.Filter{Kind: 2, Name: "A", K: 1}, false},
		{api.Filter{Kind: 3, N: 1, M: 1, K: 1}, true}, {api.Filter{Kind: 3}, false}, {api.Filter{Kind: 3, N: 1, M: 1}, false}, {api.Filter{Kind: 3, N: 1, K: 1}, false}, {api.Filter{Kind: 3, M: 1, K: 1}, false},
		{api.Filter{Kind: 3, N: 1, M: 2, K: 1, Name: "A"}, false}, {api.Filter{Kind: 3, N: 1, M: 2, K: 1, Value: "v"}, false}, {api.Filter{Kind: 3, N: 1, M: 2, K: 1}, true},
		{api.Filter{Kind: 4, Name: "A", Value: "v"}, true}, {api.Filter{Kind: 4, Name: "A"}, false}, {api.Filter{Kind: 4, Value: "v"}, false},
		{api.Filter{Kind: 4, Name: "A", Value: "v", N: 1}, false}, {api.Filter{Kind: 4, Name: "A", Value: "v", M: 1}, false}, {api.Filter{Kind: 4, Name: "A", Value: "v", K: 1}, false},
		{api.Filter{Kind: 5, Value: "v"}, true}, {api.Filter{Kind: 5}, false}, {api.Filter{Kind: 5, Name: "A", Value: "v"}, false},
		{api.Filter{Kind: 5, Value: "v", N: 1}, false}, {api.Filter{Kind: 5, Value: "v", M: 1}, false}, {api.Filter{Kind: 5, Value: "v", K: 1}, false},
		{api.Filter{Kind: 6}, true}, {api.Filter{Kind: 6, N: 1}, true}, {api.Filter{Kind: 6, N: 1, Name: "A"}, false}, {api.Filter{Kind: 6, N: 1, Value: "v"}, false}, {api.Filter{Kind: 6, N: 1, M: 1}, false}, {api.Filter{Kind: 6, N: 1, K: 1}, false},
		{api.Filter{Kind: 7, M: 400}, true}, {api.Filter{Kind: 7, N: 1}, false}, {api.Filter{Kind: 7, N: 1, M: 400, K: 1}, false}, {api.Filter{Kind: 7, N: 1, M: 400, Name: "A"}, false}, {api.Filter{Kind: 7, N: 1, M: 400, Value: "v"}, false},
		{api.Filter{Kind: 8, Name: "A", Value: "v"}, true}, {api.Filter{Kind: 8, Name: "A"}, true}, {api.Filter{Kind: 8, Value: "v"}, false},
		{api.Filter{Kind: 8, Name: "A", Value: "v", N: 1}, false}, {api.Filter{Kind: 8, Name: "A", Value: "v", M: 1}, false}, {api.Filter{Kind: 8, Name: "A", Value: "v", K: 1}, false},
	} {
		wantFilter(t, c.f, c.right)
	}
}

// Each kind, and kinds that are none, with all that they may have in all ways.
func TestFiltersOfAllKinds(t *testing.T) {
	for _, kind := range []int{math.MinInt, -1, 0, 1, 2, 3, 4, 5, 6, 7, 8, 9, 10, 1 + 1<<32, 1 << 40, math.MaxInt} {
		for _, name := range []string{"", "X-A", "Host", "a b"} {
			for _, value := range []string{"", "v w", " v"} {
				for _, n := range []int{-1, 0, 1, 100, 101, 65536, 65537} {
					for _, m := range []int{-1, 0, 1, 399, 400, 599, 600} {
						for _, k := range []int{-1, 0, 1} {
							f := api.Filter{Kind: kind, Name: name, Value: value, N: n, M: m, K: k}
							if got, want := config.Check(filtered(f)), errorIf(filterOf(f), api.ErrFilter); got != want {
								t.Fatalf("Check of %+v is %d, want %d", f, got, want)
							}
						}
					}
				}
			}
		}
	}
}

// Names of filters' fields: none that the gateway writes or leaves out, in any case; nearly all others.
func TestFilterNames(t *testing.T) {
	wrong := []string{"", " ", "a b", " a", "a ", "a:", "a,b", "(a)", "\x00", "a\x7f", "\xff", "é", long(33), long(100000)}
	right := []string{"a", "A", "-", "X-A", "0", "Accept", "Cookie", "Server", "Content-Type", "Location", "Forwarded", "X-Forwarded-Host", "Keep", "Close", "Trailers", "Date", "~!#$%&'*+.^_|\x60", long(31), long(32)}
	for name := range strings.SplitSeq(theNames, ", ") {
		wrong = append(wrong, cases(name)...)
		right = append(right, name+"x", "x"+name, name+"-", name[1:], name+"s", name[:1]+"_"+name[1:], strings.ReplaceAll(name, "-", "_")+"_")
		wrong = append(wrong, name+" ", " "+name, name+":", name+"\x00", strings.ReplaceAll(strings.ToLower(name), "e", "é")+"\xc3")
	}
	for i, names := range [][]string{wrong, right} {
		for _, name := range names {
			wantFilter(t, api.Filter{Kind: api.FilterSet, Name: name, Value: "v"}, i == 1)
			wantFilter(t, api.Filter{Kind: api.FilterDrop, Name: name}, i == 1)
			wantFilter(t, api.Filter{Kind: api.FilterToken, Name: name, Value: "v"}, i == 1)
			wantFilter(t, api.Filter{Kind: api.FilterAnswer, Name: name, Value: "v"}, i == 1)
		}
	}
	for c := range 256 {
		for _, name := range []string{one(c), one(c) + "A", "A" + one(c) + "B", "A" + one(c)} {
			wantFilter(t, api.Filter{Kind: api.FilterDrop, Name: name}, tokenForm.MatchString(name))
		}
	}
}

// theTexts are texts, and whether they are right; the empty one is not among them.
func theTexts() map[string]bool {
	texts := map[string]bool{
		"v": true, "a b": true, "a\tb": true, "-": true, "%": true, "%2D": true, "\xff": true, "é": true, long(255): true, long(256): true,
		long(257): false, long(100000): false, " ": false, "\t": false, " v": false, "v ": false, "\tv": false, "v\t": false, "a\nb": false, "\n": false, "a\r\nb": false,
		"a\x00b": false, "\x7f": false, strings.Repeat("é", 128): true, strings.Repeat("é", 129): false, strings.Repeat("é", 128) + "a": false,
		long(254) + " b": true, long(255) + " b": false, long(255) + " ": false,
	}
	for c := range 256 {
		right := c == 9 || c >= 32 && c != 127
		texts["a"+one(c)+"b"] = right
		texts[one(c)+"b"] = right && c != 9 && c != 32
		texts["a"+one(c)] = right && c != 9 && c != 32
	}
	return texts
}

// Texts wherever they may stand, those of 256 bytes and of 257, and empty ones.
func TestTexts(t *testing.T) {
	texts := theTexts()
	texts[""] = true
	for s, right := range texts {
		wantFilter(t, api.Filter{Kind: api.FilterSet, Name: "A", Value: s}, right)
		wantFilter(t, api.Filter{Kind: api.FilterAnswer, Name: "A", Value: s}, right)
		wantFilter(t, api.Filter{Kind: api.FilterToken, Name: "A", Value: s}, right && s != "")
		wantFilter(t, api.Filter{Kind: api.FilterCors, Value: s}, right && s != "")
		wantFilter(t, api.Filter{Kind: api.FilterDrop, Name: "A", Value: s}, s == "")
		for _, r := range []api.Route{forward(), redirect(), direct(), tunnel()} {
			r.Field, r.Value = "A", s
			wantRoute(t, r, right)
			r.Field = ""
			wantRoute(t, r, s == "")
		}
		r := redirect()
		r.Text = s
		wantRoute(t, r, right && s != "")
		r = direct()
		r.Text = s
		wantRoute(t, r, right)
		r = forward()
		r.Text = s
		wantRoute(t, r, s == "")
	}
}

// wantCluster wants a cluster to be told that.
func wantCluster(t *testing.T, one api.Cluster, e api.Errno) {
	t.Helper()
	c := bare()
	c.Clusters = []api.Cluster{one}
	wantCheck(t, c, e)
	c.Clusters = []api.Cluster{cluster("other"), one, cluster("behind")}
	wantCheck(t, c, e)
}

// Clusters' names: tokens, also those of fields; none twice, byte by byte.
func TestClusterNames(t *testing.T) {
	for _, name := range []string{"a", "A", "-", "0", "%", "up", "Host", "via", "te", long(32), "~!#$%&'*+.^_|\x60"} {
		wantCluster(t, cluster(name), api.OK)
	}
	for _, name := range []string{"", " ", "a b", "a ", "a:80", "a/b", "\x00", "\xff", "é", long(33), long(100000)} {
		wantCluster(t, cluster(name), api.ErrName)
		// A name that isn't right is told ahead of all else of the cluster.
		wrong := cluster(name)
		wrong.Policy, wrong.Hosts = 0, nil
		wantCluster(t, wrong, api.ErrName)
	}
	for c := range 256 {
		wantCluster(t, cluster("a"+one(c)), errorIf(tokenForm.MatchString(one(c)), api.ErrName))
	}
	for _, c := range []struct {
		names string
		e     api.Errno
	}{
		{"a b", api.OK}, {"a A", api.OK}, {"a aa", api.OK}, {"a a", api.ErrName}, {"a b a", api.ErrName}, {"a b b", api.ErrName}, {"b a a c", api.ErrName},
		{"up Up uP UP", api.OK}, {"up Up uP UP up", api.ErrName}, {"a b c d e f g a", api.ErrName}, {"a b c d e f g h", api.OK},
	} {
		names := strings.Fields(c.names)
		all := bare()
		all.Clusters = times(len(names), func(i int) api.Cluster { return cluster(names[i]) })
		wantCheck(t, all, c.e)
		all.Clusters[len(names)-1].Hosts = nil
		if c.e == api.OK {
			wantCheck(t, all, api.ErrCluster)
		} else {
			wantCheck(t, all, c.e)
		}
		// What is wrong in the first cluster is told ahead of a name that stands twice behind it.
		all.Clusters[0].Hosts = nil
		wantCheck(t, all, api.ErrCluster)
	}
}

// Policies: the four, and others.
func TestPolicies(t *testing.T) {
	for policy := -3; policy <= 9; policy++ {
		one := cluster("up")
		one.Policy = policy
		wantCluster(t, one, errorIf(policy >= 1 && policy <= 4, api.ErrCluster))
	}
}

// Hosts of clusters: authorities with a port, in their one form, none twice.
func TestHosts(t *testing.T) {
	right := []string{"a:1", "a:80", "a:65535", "a.b:80", "a-b:80", "a--b:80", "a-.b:8", "0:1", "127.0.0.1:8080", "ex.com:443", "up:80", "localhost:9999", long(64) + ":65535"}
	wrong := []string{
		"", "a", "a:", ":80", ":", "a:0", "a:00", "a:080", "a:0080", "a:00080", "a:000080", "a:08", "a:01", "a:65536", "a:99999", "a:100000", "a:165535", "a:-1", "a:+1", "a: 80", "a:80 ", " a:80", "a:8 0",
		"A:80", "eX.com:443", "ex.coM:443", "-a:80", "a-:80", ".a:80", "a.:80", "a..b:80", "a_b:80", "a:80:80", "a:80:", "a:80/", "http://a:80", "a:8a", "a:0x50", "*:80", "*.a:80", "[::1]:80", "é:80", "a\x00:80", "a:80\n",
		long(65) + ":80", long(100000) + ":80", long(64), "a:" + long(10), "a:" + strings.Repeat("0", 100000) + "1", ":0", "a,b:80", "a:80,b:80",
	}
	for i, hosts := range [][]string{wrong, right} {
		for _, h := range hosts {
			e := errorIf(i == 1, api.ErrCluster)
			wantCheck(t, hosted(h), e)
			wantCheck(t, hosted(h, "other:80"), e)
			wantCheck(t, hosted("other:80", "more:81", h), e)
			wantCheck(t, hosted(h, h), api.ErrCluster)
			wantCheck(t, hosted("other:80", h, "more:81", h), api.ErrCluster)
		}
	}
	for c := range 256 {
		letter := c >= '0' && c <= '9' || c >= 'a' && c <= 'z'
		wantCheck(t, hosted("a"+one(c)+"b:80"), errorIf(letter || c == '-' || c == '.', api.ErrCluster))
		wantCheck(t, hosted(one(c)+"b:80"), errorIf(letter, api.ErrCluster))
		wantCheck(t, hosted("a"+one(c)+":80"), errorIf(letter, api.ErrCluster))
		wantCheck(t, hosted("a"+one(c)+"80"), errorIf(c == ':', api.ErrCluster))
		wantCheck(t, hosted("a:8"+one(c)), errorIf(c >= '0' && c <= '9', api.ErrCluster))
	}
	for port := -1; port <= 66000; port++ {
		if got, want := config.Check(hosted("a:"+strconv.Itoa(port))), errorIf(port >= 1 && port <= 65535, api.ErrCluster); got != want {
			t.Fatalf("Check with the port %d is %d, want %d", port, got, want)
		}
	}
	// The same host at another port, and the same port at another host, are others; one host in two clusters is right.
	wantCheck(t, hosted("a:80", "a:81", "b:80", "b:81", "ab:80", "a.b:80"), api.OK)
	wantCheck(t, hosted("a:80", "a:81", "b:80", "b:81", "b:80", "a.b:80"), api.ErrCluster)
	c := bare()
	c.Clusters = []api.Cluster{cluster("up"), cluster("down")}
	wantCheck(t, c, api.OK)
}

// Domains: *, hosts of small letters, and *. and such a host; none twice.
func TestDomains(t *testing.T) {
	right := []string{"*", "a", "ex.com", "*.ex.com", "*.a", "0", "10.0.0.1", "a-b.c", long(64), "*." + long(64), "*.0-0"}
	wrong := []string{
		"", "*.", "**", "*.*", "*.*.a", "*a", "*a.b", "a.*", "a*", "*..a", "*.a.", "*.-a", "*-a", "*.a:80", "*:80", "a:80", "ex.com:443", "a:", "*.a:", "Ex.com", "ex.coM", "*.Ex.com", "A", "*.A", ".", ".a", "a.", "-a", "a-", "a..b", "a_b",
		" ", " a", "a ", "a b", "* ", " *", "*. a", "é", "\x00", "a\n", "\xff", "-", long(65), "*." + long(65), long(100000), "*." + long(100000), "http://a", "a/b", "a,b", "*.a,*.b", "%61",
	}
	for i, domains := range [][]string{wrong, right} {
		for _, d := range domains {
			e := errorIf(i == 1, api.ErrName)
			wantCheck(t, named(d), e)
			wantCheck(t, named("other", d, "*.other"), e)
			wantCheck(t, named(d, d), api.ErrName)
			wantCheck(t, named("other", d, "*.other", d), api.ErrName)
			// A Domain that isn't right, or stands twice, is told ahead of its routes.
			c := named(d)
			c.Vhosts[0].Routes = nil
			if i == 1 {
				wantCheck(t, c, api.ErrRoute)
			} else {
				wantCheck(t, c, api.ErrName)
			}
			c = named(d, d)
			c.Vhosts[1].Routes = nil
			wantCheck(t, c, api.ErrName)
		}
	}
	for c := range 256 {
		letter := c >= '0' && c <= '9' || c >= 'a' && c <= 'z'
		for _, ahead := range []string{"", "*."} {
			wantCheck(t, named(ahead+"a"+one(c)+"b"), errorIf(letter || c == '-' || c == '.', api.ErrName))
			wantCheck(t, named(ahead+"a"+one(c)), errorIf(letter, api.ErrName))
			wantCheck(t, named(ahead+one(c)), errorIf(letter || ahead == "" && c == '*', api.ErrName))
		}
		wantCheck(t, named("*"+one(c)+"a"), errorIf(c == '.', api.ErrName))
		wantCheck(t, named(one(c)+".a"), errorIf(letter || c == '*', api.ErrName))
	}
	wantCheck(t, named("*", "*.a", "a", "b.a", "*.b.a", "aa"), api.OK)
	wantCheck(t, named("*", "*.a", "a", "b.a", "*.b.a", "*"), api.ErrName)
	wantCheck(t, named("a", "b", "b"), api.ErrName)
	// Clusters and vhosts may have the same names.
	wantCheck(t, named("up"), api.OK)
}

// wantRoute wants a route to be right, or not, alone and among others.
func wantRoute(t *testing.T, r api.Route, right bool) {
	t.Helper()
	wantCheck(t, with(r), errorIf(right, api.ErrRoute))
	c := with(r)
	c.Vhosts = []api.Vhost{{Domain: "a", Routes: []api.Route{direct()}}, {Domain: "b", Routes: []api.Route{redirect(), r, forward()}}}
	wantCheck(t, c, errorIf(right, api.ErrRoute))
}

// Paths and Rewrites: normal forms, and empty where they may be.
func TestPaths(t *testing.T) {
	right := []string{"/", "/a", "/a/", "/a/b", "/a/b/", "/...", "/.a", "/a.", "/%20", "/a%2Fb", "/%25", "/%FF", "/~a-b_c.d", "/!$&'()*+,;=:@", "/\"<>[]^{|}\\\x60", "/" + long(2000)}
	wrong := []string{
		"a", "a/b", "//", "//a", "/a//", "/a//b", "/.", "/..", "/./", "/a/.", "/a/./b", "/a/..", "/a/../b", "/../a", "/%61", "/%2f", "/%2e", "/%2E", "/%7E", "/%41", "/%30", "/%2D", "/%5F", "/%fF", "/%", "/%2", "/%GG", "/%%20",
		"/a?", "/?x", "/#", "/a b", " /", "/ ", "/\x00", "/\n", "/\x7f", "/\xff", "/é", "*", "h:80", "http://h/", "-", "%2F", "%20",
	}
	for i, paths := range [][]string{wrong, right} {
		for _, p := range paths {
			for _, r := range []api.Route{forward(), redirect(), direct(), tunnel()} {
				r.Path = p
				wantRoute(t, r, i == 1)
				r.Prefix = !r.Prefix
				wantRoute(t, r, i == 1)
			}
			r := forward()
			r.Rewrite = p
			wantRoute(t, r, i == 1)
			r.Prefix = false
			wantRoute(t, r, i == 1)
			r.Method = "CONNECT"
			wantRoute(t, r, false)
		}
	}
	// The empty path is right for the one method alone, as it is written.
	for _, method := range []string{"", "GET", "OPTIONS", "connect", "Connect", "CONNEC", "CONNECTS", "CONNECT", "X-CONNECT"} {
		for _, r := range []api.Route{forward(), redirect(), direct()} {
			r.Path, r.Method = "", method
			wantRoute(t, r, method == "CONNECT")
			r.Prefix = false
			wantRoute(t, r, method == "CONNECT")
			r.Path = "/"
			wantRoute(t, r, true)
		}
	}
	for c := range 256 {
		for _, p := range []string{"/" + one(c), "/a" + one(c) + "b", one(c) + "a", "/%2" + one(c), "/%" + one(c) + "0"} {
			r := direct()
			r.Path = p
			wantRoute(t, r, normalOf(p))
		}
	}
}

// Methods and Fields: tokens, of so many bytes.
func TestMethodsAndFields(t *testing.T) {
	for method, right := range map[string]bool{
		"": true, "GET": true, "get": true, "M-SEARCH": true, "*": true, "-": true, "0": true, long(15): true, long(16): true, long(17): false, long(32): false, long(100000): false,
		"G T": false, " ": false, "GET ": false, " GET": false, "GET,PUT": false, "G:": false, "\x00": false, "é": false, "\xff": false, "CONNECT ": false, "CONNECT": true,
	} {
		for _, r := range []api.Route{forward(), redirect(), direct()} {
			r.Method = method
			wantRoute(t, r, right)
		}
	}
	for name, right := range map[string]bool{
		"": true, "X-A": true, "Host": true, "via": true, "Connection": true, "-": true, long(16): true, long(31): true, long(32): true, long(33): false, long(100000): false,
		"a b": false, " ": false, "a ": false, "a:": false, "\x00": false, "é": false,
	} {
		for _, r := range []api.Route{forward(), redirect(), direct(), tunnel()} {
			r.Field = name
			wantRoute(t, r, right)
			r.Value = "v"
			wantRoute(t, r, right && name != "")
		}
	}
	for c := range 256 {
		token := tokenForm.MatchString(one(c))
		r := forward()
		r.Method = "A" + one(c)
		wantRoute(t, r, token)
		r.Method, r.Field = "", "A"+one(c)
		wantRoute(t, r, token)
		r.Value = "v"
		wantRoute(t, r, token)
	}
}

// routeChange is one thing set in a route, and for which actions it is right then.
type routeChange struct {
	what                      string
	do                        func(r *api.Route)
	forward, redirect, direct bool
}

// Each action with each thing that it uses, and that it doesn't.
func TestActions(t *testing.T) {
	changes := []routeChange{
		{"nothing", func(r *api.Route) {}, true, true, true},
		{"no Cluster", func(r *api.Route) { r.Cluster = "" }, false, true, true},
		{"a Cluster", func(r *api.Route) { r.Cluster = "up" }, true, false, false},
		{"a Cluster that is none", func(r *api.Route) { r.Cluster = "down" }, false, false, false},
		{"a Cluster in another case", func(r *api.Route) { r.Cluster = "Up" }, false, false, false},
		{"a Cluster's host", func(r *api.Route) { r.Cluster = "a:80" }, false, false, false},
		{"a Cluster's beginning", func(r *api.Route) { r.Cluster = "u" }, false, false, false},
		{"a Status of 0", func(r *api.Route) { r.Status = 0 }, true, false, false},
		{"a Status of 200", func(r *api.Route) { r.Status = 200 }, false, false, true},
		{"a Status of 302", func(r *api.Route) { r.Status = 302 }, false, true, true},
		{"a Text", func(r *api.Route) { r.Text = "t" }, false, true, true},
		{"no Text", func(r *api.Route) { r.Text = "" }, true, false, true},
		{"a Rewrite", func(r *api.Route) { r.Rewrite = "/a" }, true, false, false},
		{"a Rewrite that is none", func(r *api.Route) { r.Rewrite = "a" }, false, false, false},
		{"a Retry", func(r *api.Route) { r.Retries = 1 }, true, false, false},
		{"less than no Retry", func(r *api.Route) { r.Retries = -1 }, false, false, false},
		{"a Timeout", func(r *api.Route) { r.Timeout = 1 }, true, false, false},
		{"no Timeout", func(r *api.Route) { r.Timeout = 0 }, false, true, true},
		{"less than no Timeout", func(r *api.Route) { r.Timeout = -1 }, false, false, false},
		{"an Upgrade", func(r *api.Route) { r.Upgrade = true }, true, false, false},
		{"no Prefix", func(r *api.Route) { r.Prefix = false }, true, true, true},
		{"an Action of 0", func(r *api.Route) { r.Action = 0 }, false, false, false},
		{"an Action of 4", func(r *api.Route) { r.Action = 4 }, false, false, false},
		{"an Action of -1", func(r *api.Route) { r.Action = -1 }, false, false, false},
	}
	for _, c := range changes {
		for i, r := range []api.Route{forward(), redirect(), direct()} {
			c.do(&r)
			right := []bool{c.forward, c.redirect, c.direct}[i]
			if got, want := config.Check(with(r)), errorIf(right, api.ErrRoute); got != want {
				t.Errorf("%s in the action %d: %d, want %d", c.what, i+1, got, want)
			}
			wantRoute(t, r, right)
			// Two things at once: what is wrong alone may be right then, so the other telling counts.
			for _, d := range changes {
				two := r
				d.do(&two)
				checkConfig(t, with(two))
				two.Method = "CONNECT"
				checkConfig(t, with(two))
			}
		}
	}
}

// Each Status of each action, of CONNECT and of others.
func TestStatuses(t *testing.T) {
	for status := -20; status <= 1200; status++ {
		for _, method := range []string{"", "GET", "connect", "CONNECT"} {
			r := redirect()
			r.Method, r.Status = method, status
			wantRoute(t, r, status == 301 || status == 302 || status == 307 || status == 308)
			r = direct()
			r.Method, r.Status = method, status
			right := status >= 200 && status <= 599 && status != 204 && status != 304
			wantRoute(t, r, right && (status >= 300 || method != "CONNECT"))
			r = forward()
			r.Method, r.Status = method, status
			wantRoute(t, r, status == 0)
		}
	}
}

// Routes of CONNECT to a cluster: no Rewrite, no Retries, no Upgrade.
func TestTunnels(t *testing.T) {
	for _, path := range []string{"", "/", "/a"} {
		for _, prefix := range []bool{false, true} {
			r := tunnel()
			r.Path, r.Prefix = path, prefix
			wantRoute(t, r, true)
			r.Field, r.Value = "X-A", "v"
			wantRoute(t, r, true)
			for _, c := range []func(r *api.Route){
				func(r *api.Route) { r.Rewrite = "/" }, func(r *api.Route) { r.Rewrite = "/a" }, func(r *api.Route) { r.Retries = 1 }, func(r *api.Route) { r.Retries = 5 },
				func(r *api.Route) { r.Upgrade = true }, func(r *api.Route) { r.Status = 200 }, func(r *api.Route) { r.Text = "t" }, func(r *api.Route) { r.Timeout = 0 }, func(r *api.Route) { r.Cluster = "" },
			} {
				wrong := r
				c(&wrong)
				wantRoute(t, wrong, false)
			}
			// The rules of the one method aren't those of one that is nearly it.
			r.Path, r.Method, r.Rewrite, r.Retries, r.Upgrade = "/", "connect", "/a", 1, true
			wantRoute(t, r, true)
		}
	}
}

// A route's cluster is any of the clusters, and just one of those.
func TestRoutesToClusters(t *testing.T) {
	c := bare()
	c.Clusters = times(32, func(i int) api.Cluster { return cluster("c" + digits(i)) })
	for i := range 34 {
		r := forward()
		r.Cluster = "c" + digits(i)
		c.Vhosts = []api.Vhost{{Domain: "*", Routes: []api.Route{r}}}
		wantCheck(t, c, errorIf(i < 32, api.ErrRoute))
	}
	none := with(forward())
	none.Clusters = nil
	wantCheck(t, none, api.ErrRoute)
	none = with(direct())
	none.Clusters = nil
	wantCheck(t, none, api.OK)
	// A cluster's name may be that of the word for the empty text.
	named := with(forward())
	named.Clusters[0].Name, named.Vhosts[0].Routes[0].Cluster = "-", "-"
	wantCheck(t, named, api.OK)
	named.Vhosts[0].Routes[0].Cluster = ""
	wantCheck(t, named, api.ErrRoute)
}
