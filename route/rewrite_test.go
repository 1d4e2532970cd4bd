package route_test

import (
	"strings"
	"testing"

	"barbican/api"
	"barbican/route"
)

// wantRewrite wants a path to go where it is told, by a route with Prefix or without.
func wantRewrite(t *testing.T, prefix bool, from string, to string, path string, want string) {
	t.Helper()
	r := api.Route{Prefix: prefix, Path: from, Rewrite: to}
	if got := route.Rewrite(r, path); got != want {
		t.Errorf("Rewrite(%v %q to %q, %q) = %q, not %q", prefix, from, to, path, got, want)
	}
	// What else a route says does not matter.
	r.Method, r.Field, r.Value, r.Action, r.Cluster, r.Status, r.Text, r.Retries, r.Timeout, r.Upgrade = "PUT", "A", "1", api.Redirect, "up", 301, "/t", 3, 4, true
	if got := route.Rewrite(r, path); got != want {
		t.Errorf("Rewrite(%v, %q) = %q, not %q", r, path, got, want)
	}
}

func TestRewriteExamples(t *testing.T) {
	wantRewrite(t, true, "/api", "/x", "/api/v", "/x/v")
	wantRewrite(t, true, "/api", "/x", "/api", "/x")
	wantRewrite(t, true, "/api/", "/x/", "/api/v", "/x/v")
	wantRewrite(t, true, "/api", "/", "/api/v", "/v")
}

// Without a Rewrite the path stays.
func TestNoRewrite(t *testing.T) {
	for _, path := range []string{"", "/", "/api", "/api/", "/api/v", "/other", "*", "api"} {
		for _, from := range []string{"", "/", "/api", "/api/"} {
			wantRewrite(t, false, from, "", path, path)
			wantRewrite(t, true, from, "", path, path)
		}
	}
}

// Without Prefix the path goes to the Rewrite, whatever it is.
func TestRewriteOfOnePath(t *testing.T) {
	for _, path := range []string{"", "/", "/api", "/api/", "/api/v", "/other", "/x", "*"} {
		for _, to := range []string{"/", "/x", "/x/", "x", "//"} {
			wantRewrite(t, false, "/api", to, path, to)
			wantRewrite(t, false, "/", to, path, to)
			wantRewrite(t, false, "", to, path, to)
		}
	}
}

// With Prefix: what stands behind the Path, and one slash where it meets the Rewrite.
func TestRewriteOfPrefix(t *testing.T) {
	for _, c := range []struct{ from, to, path, want string }{
		{"/api", "/x", "/api/", "/x/"}, {"/api", "/x/", "/api/", "/x/"}, {"/api", "/x/", "/api", "/x/"}, {"/api", "/x/", "/api/v", "/x/v"}, {"/api", "/", "/api", "/"}, {"/api", "/", "/api/", "/"}, {"/api", "/x", "/api/v/w/", "/x/v/w/"}, {"/api", "/x/y", "/api/v", "/x/y/v"},
		{"/api/", "/x", "/api/", "/x"}, {"/api/", "/x", "/api/v", "/x/v"}, {"/api/", "/x/", "/api/", "/x/"}, {"/api/", "/", "/api/v", "/v"}, {"/api/", "/", "/api/", "/"}, {"/api/", "/x", "/api/v/", "/x/v/"},
		{"/", "/x", "/", "/x"}, {"/", "/x", "/v", "/x/v"}, {"/", "/x/", "/v", "/x/v"}, {"/", "/", "/v", "/v"}, {"/", "/", "/", "/"}, {"/", "/x/", "/", "/x/"}, {"/", "/x", "/v/", "/x/v/"},
		{"", "/x", "", "/x"}, {"", "/x", "/", "/x/"}, {"", "/x/", "/", "/x/"}, {"", "/x", "/v", "/x/v"}, {"", "/x/", "/v", "/x/v"}, {"", "/", "/", "/"}, {"", "x", "v", "x/v"},
		// Just one slash is left out, whatever stands around the two that meet.
		{"/api", "/x/", "/api//v", "/x//v"}, {"/api", "/x//", "/api/v", "/x//v"}, {"/api", "/x", "/api//v", "/x//v"}, {"/api", "//", "/api//", "///"}, {"/api/", "/x", "/api//v", "/x/v"}, {"/api/", "/x/", "/api//v", "/x/v"}, {"/", "/", "//", "/"},
		// Paths that the route doesn't fit.
		{"/api", "/x", "/apiv", "/x/v"}, {"/api", "/x/", "/apiv", "/x/v"}, {"/api", "/x", "/other", "/x"}, {"/api", "/x", "/ap", "/x"}, {"/api", "/x", "", "/x"}, {"/api", "/x/", "/", "/x/"}, {"/api", "/x", "api/v", "/x"}, {"/api", "/x", "/API/v", "/x"}, {"/api", "/x", "/v/api", "/x"}, {"/api", "/x", "/v/api/w", "/x"}, {"/api/", "/x", "/api", "/x"}, {"/api/", "/x/", "/api", "/x/"}, {"/a", "/a", "/b/a/c", "/a"},
		// The rest may hold the Path again, and the Rewrite the path.
		{"/a", "/b", "/a/a/a", "/b/a/a"}, {"/a", "/a", "/a/a", "/a/a"}, {"/a", "/a/a", "/a", "/a/a"}, {"/a", "/a/a", "/a/a", "/a/a/a"}, {"/", "/", "/a", "/a"},
		{"/a", "/%2F", "/a/%2F", "/%2F/%2F"}, {"/a", "/b%2F", "/a%2Fc", "/b%2F/%2Fc"}, {"/a", "/\x00", "/a/\xff", "/\x00/\xff"}, {"/a", "x", "/a/v", "x/v"}, {"/a", "x", "/av", "x/v"},
	} {
		wantRewrite(t, true, c.from, c.to, c.path, c.want)
	}
}

// Each byte where the Rewrite and the rest meet.
func TestRewriteOfEachByte(t *testing.T) {
	for i := range 256 {
		for k := range 256 {
			r := api.Route{Prefix: true, Path: "/a", Rewrite: "/b" + string([]byte{byte(i)})}
			checkRewrite(t, r, "/a"+string([]byte{byte(k)}))
			checkRewrite(t, r, "/a"+string([]byte{byte(k), 'c'}))
			checkRewrite(t, r, "/"+string([]byte{byte(k)})+"/c")
		}
	}
}

// All short Paths, Rewrites and paths.
func TestShortRewrites(t *testing.T) {
	all := texts([]string{"/", "a", "b"}, 3)
	for _, from := range all {
		for _, to := range all {
			for _, path := range all {
				checkRewrite(t, api.Route{Path: from, Rewrite: to}, path)
				checkRewrite(t, api.Route{Path: from, Rewrite: to, Prefix: true}, path)
			}
		}
	}
}

func TestLongRewrite(t *testing.T) {
	long := strings.Repeat("/a", 1<<16)
	wantRewrite(t, true, long, long+"/", long+long, long+long)
	wantRewrite(t, true, long, long, long+long, long+long)
	wantRewrite(t, true, "/a", "/", long, long[2:])
	wantRewrite(t, true, long, "/x", long[:len(long)-1], "/x")
}

// Clusters: the first of the name, byte by byte.
func TestClusters(t *testing.T) {
	named := func(names ...string) api.Config {
		var c api.Config
		for _, n := range names {
			c.Clusters = append(c.Clusters, api.Cluster{Name: n})
		}
		return c
	}
	for _, c := range []struct {
		names []string
		name  string
		want  int
	}{
		{nil, "", -1}, {nil, "up", -1}, {[]string{}, "up", -1}, {[]string{"up"}, "up", 0}, {[]string{"up"}, "", -1}, {[]string{"up"}, "Up", -1}, {[]string{"UP"}, "up", -1}, {[]string{"up"}, "upp", -1}, {[]string{"up"}, "u", -1},
		{[]string{"up", "down", "left"}, "up", 0}, {[]string{"up", "down", "left"}, "down", 1}, {[]string{"up", "down", "left"}, "left", 2}, {[]string{"up", "down", "left"}, "right", -1}, {[]string{"up", "Up", "uP"}, "Up", 1}, {[]string{"up", "Up", "uP"}, "uP", 2}, {[]string{"up", "Up", "uP"}, "UP", -1},
		{[]string{"a", "b", "b", "a"}, "b", 1}, {[]string{"a", "b", "b", "a"}, "a", 0}, {[]string{"a", "", "b", ""}, "", 1}, {[]string{"*"}, "up", -1}, {[]string{"a", "*"}, "*", 1}, {[]string{"\xff\x00"}, "\xff\x00", 0}, {[]string{"\xff"}, "\ufffd", -1},
	} {
		if got := route.Cluster(named(c.names...), c.name); got != c.want {
			t.Errorf("Cluster(%q, %q) = %d, not %d", c.names, c.name, got, c.want)
		}
	}
	// A vhost or a filter of the name is no cluster.
	if got := route.Cluster(api.Config{Filters: []api.Filter{{Name: "up"}}, Vhosts: []api.Vhost{{Domain: "up"}}}, "up"); got != -1 {
		t.Errorf("Cluster = %d", got)
	}
}
