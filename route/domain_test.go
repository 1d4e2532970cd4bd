package route_test

import (
	"slices"
	"strings"
	"testing"

	"barbican/api"
	"barbican/dice"
	"barbican/route"
)

// The chapter's examples, in every order of the domains.
func TestDomainExamples(t *testing.T) {
	for _, domains := range orders([]string{"*", "*.ex.com", "*.b.ex.com", "ex.com"}) {
		c := domained(domains...)
		for host, domain := range map[string]string{
			"a.b.ex.com": "*.b.ex.com", "ex.com": "ex.com", ".ex.com": "*", "b.ex.com": "*.ex.com", ".b.ex.com": "*.ex.com", "c.a.b.ex.com": "*.b.ex.com",
			"": "*", "com": "*", "aex.com": "*", "ex.com.": "*", "x.ex.com": "*.ex.com", "*": "*", "*.ex.com": "*.ex.com", "*.b.ex.com": "*.b.ex.com", "Ex.com": "*", "a.ex.coM": "*",
		} {
			wantDomain(t, c, host, slices.Index(domains, domain))
		}
	}
}

// Configs without vhosts, and with one.
func TestOneDomain(t *testing.T) {
	for _, host := range []string{"", "*", "a", "*.", "a.b", "."} {
		wantDomain(t, domained(), host, -1)
		wantDomain(t, api.Config{Vhosts: []api.Vhost{}}, host, -1)
		wantDomain(t, domained("*"), host, 0)
	}
	for _, c := range []struct {
		domain, host string
		fits         bool
	}{
		{"ex.com", "ex.com", true}, {"ex.com", "a.ex.com", false}, {"ex.com", ".ex.com", false}, {"ex.com", "ex.com.", false}, {"ex.com", "ex.co", false}, {"ex.com", "x.com", false}, {"ex.com", "", false},
		{"ex.com", "ex.Com", false}, {"ex.com", "EX.COM", false}, {"Ex.com", "ex.com", false}, {"Ex.com", "Ex.com", true}, {"ex.com", "*", false}, {"ex.com", "*.ex.com", false}, {"ex.com", "ex,com", false},
		{"", "", true}, {"", "a", false}, {"", ".", false}, {"", "*", false}, {".", ".", true}, {".", "", false}, {".", "a.", false},
		{"*.x", "x", false}, {"*.x", ".x", false}, {"*.x", "a.x", true}, {"*.x", "..x", true}, {"*.x", "a..x", true}, {"*.x", "ax", false}, {"*.x", "a.xx", false}, {"*.x", "a.x.", false}, {"*.x", "a.X", false}, {"*.X", "a.X", true}, {"*.X", "a.x", false},
		{"*.x", "*.x", true}, {"*.x", "", false}, {"*.x", "*", false}, {"*.x", "a.x.x", true}, {"*.x", "x.a", false}, {"*.x", "a.x:80", false}, {"*.x", "aa.x", true}, {"*.x", "*x", false}, {"*.x", "\x00.x", true},
		{"*.", "a.", true}, {"*.", ".", false}, {"*.", "", false}, {"*.", "a", false}, {"*.", "..", true}, {"*.", "a.b.", true}, {"*.", "a.b", false}, {"*.", "*.", true}, {"*.", "*", false},
		{"*..", "a..", true}, {"*..", "..", false}, {"*..", "...", true}, {"*..", "a.", false}, {"*..x", "a..x", true}, {"*..x", "a.x", false}, {"*..x", "..x", false}, {"*..x", ".x", false},
		{"*.a.b.c", "x.a.b.c", true}, {"*.a.b.c", "a.b.c", false}, {"*.a.b.c", "xa.b.c", false}, {"*.a.b.c", "x.y.a.b.c", true}, {"*.a.b.c", ".a.b.c", false},
		{"*.*", "a.*", true}, {"*.*", "a.b", false}, {"*.*", "*.*", true}, {"*.*", ".*", false}, {"*.*.x", "a.*.x", true}, {"*.*.x", "a.b.x", false}, {"*.x*", "a.x*", true}, {"*.x*", "a.xy", false}, {"*.*x", "a.*x", true}, {"*.*x", "a.bx", false},
		{"**", "a", false}, {"**", "**", true}, {"**", "*", false}, {"**.x", "a.x", false}, {"**.x", "**.x", true}, {"*x", "ax", false}, {"*x", "*x", true}, {"*x", "a.x", false}, {"*-x", "a-x", false}, {"*.x", "a-x", false},
		{"a*", "a*", true}, {"a*", "ab", false}, {"a.*", "a.b", false}, {"a.*", "a.*", true}, {"a*.x", "ab.x", false}, {".*", ".*", true}, {".*", "a.*", false}, {"x.*.y", "x.a.y", false}, {"*\x00x", "a\x00x", false}, {" *", "a", false}, {"* ", "a", false}, {" *.x", "a.x", false},
	} {
		want := 0
		if !c.fits {
			want = -1
		}
		wantDomain(t, domained(c.domain), c.host, want)
	}
}

// Which domain counts of several that fit; where one stands twice the first.
func TestBestDomain(t *testing.T) {
	for _, c := range []struct {
		host string
		best string
		rest []string
	}{
		{"a.b.c", "a.b.c", []string{"*.b.c", "*.c", "*"}}, {"a.b.c", "*.b.c", []string{"*.c", "*", "b.c"}}, {"a.b.c", "*.c", []string{"*", "*.a.b.c", "*.d.c"}}, {"a.b.c", "*", []string{"*.a.b.c", "c", "A.b.c"}},
		{"a.b.c", "*.c", []string{"*.C", "*.b.C", "*.x.b.c"}}, {"a.b.c", "*.b.c", []string{"*.a.c", "*.bb.c", "*..c"}}, {"*", "*", []string{"*.", "*.*", "**"}}, {"", "", []string{"*", "*.", "."}}, {"", "*", []string{"*.", "a", "."}},
		{"*.x", "*.x", []string{"*", "*.", "x"}}, {"*.x", "*", []string{"*.", "*.*.x", "x"}}, {"*.a.x", "*.a.x", []string{"*.x", "*", "a.x"}}, {"*.a.x", "*.x", []string{"*", "*.*.a.x", "*.A.x"}},
		{"a.", "*.", []string{"*", "a", "*.a."}}, {"a..", "*..", []string{"*.", "*", "*.a.."}}, {"*.", "*.", []string{"*", ".", "**"}}, {"a.longer", "*.longer", []string{"*", "*.onger", "longer"}},
		{"a.x", "a.x", []string{"*.x", "*.yyyyyyyyyy", "*"}}, {"a.x", "*.x", []string{"*.yyyyyyyyyy", "bbbbbbbbb", "*"}},
	} {
		for _, domains := range orders(append([]string{c.best}, c.rest...)) {
			wantDomain(t, domained(domains...), c.host, slices.Index(domains, c.best))
		}
		for _, domains := range orders(append([]string{c.best, c.best}, c.rest[:2]...)) {
			wantDomain(t, domained(domains...), c.host, slices.Index(domains, c.best))
		}
	}
	wantDomain(t, domained("*", "*", "*"), "a", 0)
	wantDomain(t, domained("x", "a", "a"), "a", 1)
	wantDomain(t, domained("x", "*.b", "*.b", "*"), "a.b", 1)
}

// Every byte in a host and in a domain is itself alone.
func TestDomainOfEachByte(t *testing.T) {
	for i := range 256 {
		one := string([]byte{byte(i)})
		for k := range 256 {
			other := string([]byte{byte(k)})
			for _, c := range []api.Config{domained(one), domained(one + "x"), domained("*." + one), domained("*." + one + "x")} {
				for _, host := range []string{other, other + "x", "a." + other, "a." + other + "x", other + "." + one} {
					checkDomain(t, c, host)
				}
			}
		}
		for _, c := range []api.Config{domained("*" + one), domained(one + "."), domained(one + ".x"), domained("*" + one + "x"), domained("*", "*"+one), domained("*.", one)} {
			for _, host := range []string{"", one, one + "x", one + ".x", "a" + one, "a" + one + "x", "*" + one, "a.x", "a.", "." + one} {
				checkDomain(t, c, host)
			}
		}
	}
}

// All short domains, one and two, of all short hosts.
func TestShortDomains(t *testing.T) {
	all := texts([]string{"*", ".", "a", "b"}, 4)
	for _, d := range all {
		c := domained(d)
		for _, host := range all {
			checkDomain(t, c, host)
		}
	}
	few := texts([]string{"*", ".", "a"}, 3)
	for _, d := range few {
		for _, e := range few {
			c := domained(d, e)
			for _, host := range few {
				checkDomain(t, c, host)
			}
		}
	}
}

// Many domains and hosts, drawn.
func TestDrawnDomains(t *testing.T) {
	d := dice.New(15)
	text := func() string {
		var s strings.Builder
		for range d.Below(6) {
			s.WriteString(pick(d, ".", "a", "b", "A", "*", ".a", ".b"))
		}
		return s.String()
	}
	for range 20000 {
		var domains []string
		for range d.Below(12) {
			domains = append(domains, pick(d, "", "*", "*.", "*.", "*.")+text())
		}
		c := domained(domains...)
		for range 5 {
			checkDomain(t, c, text())
		}
		if len(domains) > 0 {
			checkDomain(t, c, pick(d, domains...))
			checkDomain(t, c, text()+strings.TrimPrefix(pick(d, domains...), "*"))
		}
	}
}

// Many vhosts and long texts.
func TestLongDomains(t *testing.T) {
	long := strings.Repeat("a.", 1<<15)
	c := domained("*", "*."+long, "*.a."+long, long)
	for host, want := range map[string]int{long: 3, "a." + long: 1, "b." + long: 1, "b.a." + long: 2, "." + long: 0, "b" + long: 0, long + "b": 0, "*." + long: 1} {
		if got := route.Domain(c, host); got != want {
			t.Errorf("Domain(.., %.9q.. of %d bytes) = %d, not %d", host, len(host), got, want)
		}
	}
	var many []string
	for i := range 5000 {
		many = append(many, "*."+strings.Repeat("b", i))
	}
	c = domained(many...)
	for _, i := range []int{0, 1, 2500, 4999} {
		checkDomain(t, c, "a."+strings.Repeat("b", i))
	}
	checkDomain(t, c, "a."+strings.Repeat("b", 5000))
}
