package config_test

import (
	"slices"
	"strconv"
	"strings"
	"testing"

	"barbican/api"
	"barbican/config"
	"barbican/dice"
)

const example = "listen 4 100 50 20 2 7\ncluster up 1 2 1 30 3 100 50 a:80\nvhost *\nroute 1 / - - - 1 up 0 - - 1 60 0\n"

// wholeText is the text of the config whole.
const wholeText = "listen 3 1000 51 21 4 9\n" +
	"filter 1 X-A 1%20%092 0 0 0\n" +
	"filter 2 Cookie - 0 0 0\n" +
	"filter 3 - - 10 2 5\n" +
	"filter 4 X-Key s%25t 0 0 0\n" +
	"filter 5 - * 0 0 0\n" +
	"filter 6 - - 500 0 0\n" +
	"filter 7 - - 5 503 0\n" +
	"filter 8 Server b 0 0 0\n" +
	"filter 8 X-Empty - 0 0 0\n" +
	"cluster up 1 1 2 30 3 100 50 a:80\n" +
	"cluster %2D 4 64 0 31 4 101 0 b.ex.com:8080 b.ex.com:8081 10.0.0.1:1\n" +
	"cluster Up 2 6 7 8 9 10 11 c:65535\n" +
	"vhost *.ex.com\n" +
	"route 1 /api/ GET X-V 2%20b 1 %2D 0 - /v2/%252F 2 61 1\n" +
	"route 0 /%2520 POST X-V - 3 - 404 not%20here - 0 0 0\n" +
	"vhost ex.com\n" +
	"route 0 /old - - - 2 - 308 http://ex.com/new?x=1 - 0 0 0\n" +
	"vhost *\n" +
	"route 0 - CONNECT - - 1 up 0 - - 0 62 0\n" +
	"route 0 / CONNECT - - 3 - 403 - - 0 0 0\n" +
	"route 1 / - - - 1 Up 0 - - 1 60 0\n"

// checkParse holds Parse of a text against what it is to answer.
func checkParse(t *testing.T, text string) {
	t.Helper()
	got, line, e := config.Parse(text)
	want, wantLine, wantE := parseOf(text)
	if !same(got, want) || line != wantLine || e != wantE {
		t.Fatalf("Parse(%q) is %+v, %d, %d, want %+v, %d, %d", text, got, line, e, want, wantLine, wantE)
	}
}

// wantParse wants a text to be read as that config.
func wantParse(t *testing.T, text string, c api.Config) {
	t.Helper()
	if got, line, e := config.Parse(text); !same(got, c) || line != 0 || e != api.OK {
		t.Errorf("Parse(%q) is %+v, %d, %d, want %+v, 0, 0", text, got, line, e, c)
	}
	checkParse(t, text)
}

// wantNot wants a text to be told with that line and that error, and nothing else.
func wantNot(t *testing.T, text string, line int, e api.Errno) {
	t.Helper()
	got, at, what := config.Parse(text)
	if at != line || what != e {
		t.Errorf("Parse(%q) is %d, %d, want %d, %d", text, at, what, line, e)
	}
	if !same(got, api.Config{}) {
		t.Errorf("Parse(%q) is %+v beside the error %d", text, got, what)
	}
	checkParse(t, text)
}

// P14.2 and P14.3: the texts of configs.
func TestTextsOfConfigs(t *testing.T) {
	c := api.Config{Conns: 4, Body: 100, Idle: 50, Grace: 20, Budget: 2, Seed: 7}
	wantParse(t, "listen 4 100 50 20 2 7\n", c)
	if got := config.Print(c); got != "listen 4 100 50 20 2 7\n" {
		t.Errorf("Print is %q", got)
	}
	c.Clusters = []api.Cluster{{Name: "up", Policy: api.RoundRobin, Hosts: []string{"a:80"}, Conns: 2, Pending: 1, Try: 30, Fails: 3, Eject: 100, Panic: 50}}
	c.Vhosts = []api.Vhost{{Domain: "*", Routes: []api.Route{{Prefix: true, Path: "/", Action: api.Forward, Cluster: "up", Retries: 1, Timeout: 60}}}}
	wantParse(t, example, c)
	if got := config.Print(c); got != example {
		t.Errorf("Print is %q, want %q", got, example)
	}
	wantParse(t, wholeText, whole())
	if got := config.Print(whole()); got != wholeText {
		t.Errorf("Print is %q, want %q", got, wholeText)
	}
	wantParse(t, "listen 256 65536 1048576 1048576 256 1099511627776\n", api.Config{Conns: 256, Body: 65536, Idle: 1 << 20, Grace: 1 << 20, Budget: 256, Seed: 1 << 40})
	wantParse(t, "listen 1 0 1 1 0 0\n", api.Config{Conns: 1, Idle: 1, Grace: 1})
}

// Filters, clusters and vhosts in any order of lines; routes belong to the last vhost ahead.
func TestOrderOfLines(t *testing.T) {
	mixed := "listen 2 100 50 20 2 7\n" +
		"vhost a\nfilter 6 - - 1 0 0\nroute 0 / - - - 3 - 201 a - 0 0 0\ncluster up 1 2 1 30 3 100 50 a:80\nroute 0 / - - - 1 down 0 - - 0 1 0\n" +
		"vhost b\ncluster down 2 2 1 30 3 100 50 b:80\nfilter 6 - - 0 0 0\nroute 0 / - - - 1 up 0 - - 0 2 0\nfilter 6 - - 2 0 0\n"
	c := bare()
	c.Filters = []api.Filter{{Kind: 6, N: 1}, {Kind: 6}, {Kind: 6, N: 2}}
	c.Clusters = []api.Cluster{
		{Name: "up", Policy: 1, Hosts: []string{"a:80"}, Conns: 2, Pending: 1, Try: 30, Fails: 3, Eject: 100, Panic: 50},
		{Name: "down", Policy: 2, Hosts: []string{"b:80"}, Conns: 2, Pending: 1, Try: 30, Fails: 3, Eject: 100, Panic: 50},
	}
	c.Vhosts = []api.Vhost{
		{Domain: "a", Routes: []api.Route{{Path: "/", Action: 3, Status: 201, Text: "a"}, {Path: "/", Action: 1, Cluster: "down", Timeout: 1}}},
		{Domain: "b", Routes: []api.Route{{Path: "/", Action: 1, Cluster: "up", Timeout: 2}}},
	}
	wantParse(t, mixed, c)
	wantParse(t, config.Print(c), c)
	if got := strings.Count(config.Print(c), "\n"); got != 11 || config.Print(c) == mixed {
		t.Errorf("the lines printed are %q", config.Print(c))
	}
	// Each order of the lines behind the first.
	lines := []string{"filter 6 - - 1 0 0\n", "cluster up 1 2 1 30 3 100 50 a:80\n", "vhost a\n", "vhost b\n", "route 0 / - - - 1 up 0 - - 0 2 0\n", "route 0 / - - - 3 - 201 a - 0 0 0\n"}
	var orders func(text string, left []string)
	orders = func(text string, left []string) {
		checkParse(t, text)
		for i := range left {
			orders(text+left[i], slices.Concat(left[:i], left[i+1:]))
		}
	}
	orders("listen 2 100 50 20 2 7\n", lines)
}

// Texts that aren't of the form, with the number of the first line that isn't.
func TestWrongTexts(t *testing.T) {
	const l, v, r = "listen 2 100 50 20 2 7\n", "vhost *\n", "route 1 / - - - 3 - 200 hi - 0 0 0\n"
	for _, c := range []struct {
		text string
		line int
	}{
		// No line, empty lines, a last line without its end.
		{"", 0}, {"\n", 0}, {"\n\n", 0}, {"\n" + l, 0}, {l + "\n", 1}, {l + "\n" + v + r, 1}, {l + v + r + "\n", 3}, {l + v + "\n" + r, 2}, {" ", 0}, {" \n", 0}, {"-\n", 0},
		{"listen 2 100 50 20 2 7", 0}, {"listen", 0}, {"x", 0}, {l + "vhost *", 1}, {l + "vhost", 1}, {l + "v", 1}, {l + " ", 1}, {l + v + "route 1 / - - - 3 - 200 hi - 0 0 0", 2}, {l + v + r + "filter 6 - - 1 0 0", 3},
		// No listen line first, and one elsewhere.
		{v + r, 0}, {v + l + r, 0}, {"filter 6 - - 1 0 0\n" + l, 0}, {r, 0}, {l + l, 1}, {l + v + l + r, 2}, {l + v + r + l, 3}, {l + "listen 3 100 50 20 2 7\n", 1}, {"cluster up 1 2 1 30 3 100 50 a:80\n" + l, 0},
		// A route ahead of any vhost.
		{l + r, 1}, {l + r + v, 1}, {l + "filter 6 - - 1 0 0\n" + r + v, 2}, {l + "cluster up 1 2 1 30 3 100 50 a:80\n" + r, 2},
		// Words that are no line's.
		{l + "Vhost *\n", 1}, {l + "VHOST *\n", 1}, {l + "host *\n", 1}, {l + "vhosts *\n", 1}, {l + "%76host *\n", 1}, {"Listen 2 100 50 20 2 7\n", 0}, {"LISTEN 2 100 50 20 2 7\n", 0}, {l + "# a\n", 1}, {l + "- *\n", 1}, {l + "* vhost\n", 1},
		{l + "filters 6 - - 1 0 0\n", 1}, {l + "clust up 1 2 1 30 3 100 50 a:80\n", 1}, {l + v + "routes 1 / - - - 3 - 200 hi - 0 0 0\n", 2}, {l + "\x00\n", 1}, {l + "\xff\xfe\n", 1}, {"\ufeff" + l, 0},
		// Blanks too many: ahead, between and behind; others than the byte 32.
		{" " + l, 0}, {"listen  2 100 50 20 2 7\n", 0}, {"listen 2 100 50 20 2 7 \n", 0}, {"listen 2 100  50 20 2 7\n", 0}, {"listen\t2 100 50 20 2 7\n", 0}, {"listen 2 100 50 20 2\t7\n", 0}, {"listen 2 100 50 20 2 7\t\n", 0},
		{l + " vhost *\n", 1}, {l + "vhost  *\n", 1}, {l + "vhost * \n", 1}, {l + "vhost\t*\n", 1}, {l + "vhost \n", 1}, {l + "vhost  \n", 1}, {l + "vhost\u00a0*\n", 1}, {l + v + "route 1 / -  - - 3 - 200 hi - 0 0 0\n", 2}, {l + v + "route 1 / - - - 3 - 200 hi - 0 0 0 \n", 2},
		// Other line ends.
		{"listen 2 100 50 20 2 7\r\n", 0}, {l + "vhost *\r\n", 1}, {"listen 2 100 50 20 2 7\r", 0}, {l + "vhost *\x0b\n", 1}, {l + "vhost *\x00\n", 1},
		// Words too few and too many.
		{"listen\n", 0}, {"listen \n", 0}, {"listen 2\n", 0}, {"listen 2 100 50 20 2\n", 0}, {"listen 2 100 50 20 2 7 0\n", 0}, {"listen 2 100 50 20 2 7 -\n", 0},
		{l + "filter\n", 1}, {l + "filter 6 - - 1 0\n", 1}, {l + "filter 6 - - 1 0 0 0\n", 1}, {l + "filter 6 - 1 0 0\n", 1}, {l + "filter 6 - - - 1 0 0\n", 1},
		{l + "cluster\n", 1}, {l + "cluster up 1 2 1 30 3 100\n", 1}, {l + "cluster up 1 2 1 30 3 100 a:80\n", 1}, {l + "cluster up 1 2 1 30 3 100 50 \n", 1}, {l + "cluster up 1 2 1 30 3 100 50 a:80 \n", 1}, {l + "cluster up 1 2 1 30 3 100 50  a:80\n", 1}, {l + "cluster up 1 2 1 30 3 100 50 a:80  b:80\n", 1},
		{l + "vhost\n", 1}, {l + "vhost * *\n", 1}, {l + "vhost * -\n", 1},
		{l + v + "route\n", 2}, {l + v + "route 1\n", 2}, {l + v + "route 1 / - - - 3 - 200 hi - 0 0\n", 2}, {l + v + "route 1 / - - - 3 - 200 hi - 0 0 0 0\n", 2}, {l + v + "route 1 / - - 3 - 200 hi - 0 0 0\n", 2}, {l + v + "route 1 / - - - - 3 - 200 hi - 0 0 0\n", 2},
		// A path's escapes are written as escapes of a word.
		{l + v + "route 1 /%61 - - - 3 - 200 hi - 0 0 0\n", 2}, {l + v + "route 1 /%2F - - - 3 - 200 hi - 0 0 0\n", 2}, {l + v + "route 1 /% - - - 3 - 200 hi - 0 0 0\n", 2},
		// The first of several; and one that isn't of the form is told ahead of what isn't right.
		{"listen 0 100 50 20 2 7\nvhost\n", 1}, {"listen 0 100 50 20 2 7\nfilter 9 - - 0 0 0\nvhost *\nx\n", 3}, {l + "vhost\nvhost\n", 1}, {l + v + "x\n" + v + "y\n", 2}, {"listen x\nvhost\n", 0}, {l + "vhost -\nvhost -\nvhost", 3},
	} {
		wantNot(t, c.text, c.line, api.ErrText)
	}
	// Far behind the beginning.
	wantNot(t, l+strings.Repeat(v, 5000)+"x\n"+v, 5001, api.ErrText)
	wantNot(t, l+strings.Repeat(v, 5000)+"vhost *", 5001, api.ErrText)
}

// What isn't right is told with the line 0 and its error.
func TestTextsThatAreNotRight(t *testing.T) {
	const l, cl, v, r = "listen 2 100 50 20 2 7\n", "cluster up 1 2 1 30 3 100 50 a:80\n", "vhost *\n", "route 1 / - - - 3 - 200 hi - 0 0 0\n"
	for _, c := range []struct {
		text string
		e    api.Errno
	}{
		{"listen 0 100 50 20 2 7\n", api.ErrBounds}, {"listen 257 100 50 20 2 7\n", api.ErrBounds}, {"listen 2 65537 50 20 2 7\n", api.ErrBounds}, {"listen 2 100 0 20 2 7\n", api.ErrBounds}, {"listen 2 100 50 0 2 7\n", api.ErrBounds},
		{"listen 2 100 50 20 257 7\n", api.ErrBounds}, {"listen 2 100 50 20 2 1099511627777\n", api.ErrBounds}, {"listen 2 100 50 20 2 999999999999999\n", api.ErrBounds}, {l + strings.Repeat("filter 6 - - 1 0 0\n", 33), api.ErrBounds},
		{l + "filter 0 - - 0 0 0\n", api.ErrFilter}, {l + "filter 9 - - 0 0 0\n", api.ErrFilter}, {l + "filter 1 Host v 0 0 0\n", api.ErrFilter}, {l + "filter 1 a%20b v 0 0 0\n", api.ErrFilter}, {l + "filter 1 A %20 0 0 0\n", api.ErrFilter}, {l + "filter 5 - - 0 0 0\n", api.ErrFilter},
		{l + "cluster - 1 2 1 30 3 100 50 a:80\n", api.ErrName}, {l + cl + cl, api.ErrName}, {l + "cluster up 5 2 1 30 3 100 50 a:80\n", api.ErrCluster}, {l + "cluster up 1 2 1 30 3 100 50 a:80 a:80\n", api.ErrCluster}, {l + "cluster up 1 2 1 30 3 100 50 a\n", api.ErrCluster}, {l + "cluster up 1 2 1 30 3 100 50 -\n", api.ErrCluster},
		// Hosts none, and too many.
		{l + "cluster up 1 2 1 30 3 100 50\n", api.ErrCluster}, {l + "cluster - 1 2 1 30 3 100 50\n", api.ErrName}, {l + "cluster up 1 2 1 30 3 100 50" + hosts(17) + "\n", api.ErrCluster}, {l + "cluster up 1 2 1 30 3 100 50" + hosts(9000) + "\n", api.ErrCluster},
		{l + v, api.ErrRoute}, {l + v + v, api.ErrRoute}, {l + v + r + v + r, api.ErrName}, {l + "vhost -\n" + r, api.ErrName}, {l + "vhost Ex.com\n" + r, api.ErrName}, {l + v + strings.Repeat(r, 33), api.ErrRoute},
		{l + v + "route 1 - - - - 3 - 200 hi - 0 0 0\n", api.ErrRoute}, {l + v + "route 1 / - - - 0 - 200 hi - 0 0 0\n", api.ErrRoute}, {l + v + "route 1 / - - - 1 up 0 - - 0 60 0\n", api.ErrRoute}, {l + cl + v + "route 1 / - - - 1 up 0 - - 6 60 0\n", api.ErrRoute},
		{l + v + "route 1 /%2561 - - - 3 - 200 hi - 0 0 0\n", api.ErrRoute},
	} {
		wantNot(t, c.text, 0, c.e)
	}
	c := bare()
	c.Clusters = []api.Cluster{cluster("up")}
	c.Clusters[0].Hosts = strings.Fields(hosts(16))
	wantParse(t, l+"cluster up 1 2 1 30 3 100 50"+hosts(16)+"\n", c)
}

// hosts are n hosts, with a blank ahead of each.
func hosts(n int) string {
	text := ""
	for i := range n {
		text += " a:" + strconv.Itoa(i+1)
	}
	return text
}

// place is where a word stands in the config whole's text, and what it must be: a text (W), a number (N) or a flag (F).
type place struct {
	line, word int
	kind       byte
}

// places are those of all words but each line's first.
func places() []place {
	forms := map[string]string{"listen": "NNNNNN", "filter": "NWWNNN", "cluster": "WNNNNNNNWWW", "vhost": "W", "route": "FWWWWNWNWWNNF"}
	var all []place
	for i, line := range strings.Split(wholeText, "\n") {
		words := strings.Split(line, " ")
		for j := 1; j < len(words); j++ {
			all = append(all, place{i, j, forms[words[0]][j-1]})
		}
	}
	return all
}

// put is the config whole's text with another word in a place.
func put(p place, word string) string {
	lines := strings.Split(wholeText, "\n")
	words := strings.Split(lines[p.line], " ")
	words[p.word] = word
	lines[p.line] = strings.Join(words, " ")
	return strings.Join(lines, "\n")
}

// Each word of each line in the place of which kind it must be: numbers, flags and texts.
func TestWordsOfLines(t *testing.T) {
	numbers := map[string]bool{
		"0": true, "1": true, "9": true, "10": true, "100": true, "99999999999999": true, "100000000000000": true, "999999999999999": true,
		"1000000000000000": false, "9999999999999999": false, "18446744073709551616": false, "18446744073709551617": false, "9223372036854775808": false, strings.Repeat("1", 1000): false,
		"00": false, "01": false, "007": false, "000000000000001": false, "0000000000000001": false, strings.Repeat("0", 1000): false,
		"-1": false, "+1": false, "-0": false, "+0": false, "-": false, "1.": false, "1.0": false, "1e2": false, "0x1": false, "1_0": false, "a": false, "1a": false, "a1": false, "%31": false, "1%20": false, "true": false, "": false, "\x00": false, "1\x00": false, "１": false, "/": false, ":": false, "1\t": false, "\t1": false,
	}
	flags := map[string]bool{"0": true, "1": true}
	for _, w := range []string{"2", "3", "9", "10", "11", "00", "01", "-1", "+1", "-", "%31", "true", "false", "t", "", "\x00", "\x01", "O", "l", "1000000000000000"} {
		flags[w] = false
	}
	texts := map[string]bool{
		"-": true, "%2D": true, "--": true, "a": true, "0": true, "%25": true, "%20": true, "%0A": true, "%00": true, "%FF": true, "%7F": true, "a%20b": true, "#": true, "~": true, long(5000): true, "%2561": true, "1": true, "*": true,
		"": false, "%": false, "%2": false, "%2d": false, "%0a": false, "%61": false, "a%2D": false, "%2D-": false, "%GG": false, "a%": false, "\x7f": false, "\xff": false, "é": false, "\x00": false, "a\tb": false, "%ff": false, "\r": false,
	}
	// What is of the form may be told as something else than ErrText, whatever Check says of it.
	kinds := map[byte]map[string]bool{'N': numbers, 'F': flags, 'W': texts}
	for _, p := range places() {
		for word, right := range kinds[p.kind] {
			text := put(p, word)
			_, line, e := config.Parse(text)
			if right && e == api.ErrText || !right && (e != api.ErrText || line != p.line) {
				t.Errorf("%q as the word %d of the line %d: %d, %d", word, p.word, p.line, line, e)
			}
			checkParse(t, text)
		}
	}
}

// The config whole's text cut off behind each byte; with each line left out, told twice, and moved; with each byte left out, and others in its place and ahead of it.
func TestChangedTexts(t *testing.T) {
	for i := range len(wholeText) + 1 {
		checkParse(t, wholeText[:i])
		checkParse(t, wholeText[:i]+"\n")
		checkParse(t, wholeText[i:])
		if i == len(wholeText) {
			break
		}
		checkParse(t, wholeText[:i]+wholeText[i+1:])
		for _, other := range []string{" ", "\n", "-", "%", "0", "1", "2", "a", "A", "/", "\t", "\r", "\x00", "\xff", "*", ":"} {
			checkParse(t, wholeText[:i]+other+wholeText[i+1:])
			checkParse(t, wholeText[:i]+other+wholeText[i:])
		}
	}
	lines := strings.SplitAfter(strings.TrimSuffix(wholeText, "\n"), "\n")
	lines[len(lines)-1] += "\n"
	for i := range lines {
		without := slices.Concat(lines[:i], lines[i+1:])
		checkParse(t, strings.Join(without, ""))
		for j := range len(without) + 1 {
			checkParse(t, strings.Join(slices.Insert(slices.Clone(without), j, lines[i]), ""))
			checkParse(t, strings.Join(slices.Insert(slices.Clone(lines), j, lines[i]), ""))
		}
	}
}

// All short texts of pieces of lines.
func TestShortTexts(t *testing.T) {
	pieces := []string{"listen", "vhost", " ", "1", "\n", "*", "listen 1 1 1 1 1 1\n", "vhost *\n", "route 0 / - - - 3 - 200 - - 0 0 0\n"}
	texts := []string{""}
	for from := 0; len(texts) < 60000; from++ {
		checkParse(t, texts[from])
		for _, p := range pieces {
			texts = append(texts, texts[from]+p)
		}
	}
	for _, s := range shorts("listen 1\n", 4) {
		checkParse(t, s)
		checkParse(t, "listen 1 1 1 1 1 1\nvhost"+s)
	}
}

// pick draws one of those.
func pick[T any](d *dice.Dice, of ...T) T {
	return of[d.Below(len(of))]
}

// drawnRoute is a route, mostly right.
func drawnRoute(d *dice.Dice) api.Route {
	r := pick(d, forward(), redirect(), direct(), tunnel())
	r.Prefix = d.Below(2) == 0
	r.Path = pick(d, r.Path, r.Path, "/", "/a", "/a/b%20/")
	r.Method = pick(d, r.Method, r.Method, r.Method, "GET", "CONNECT")
	r.Field = pick(d, "", "X-A", "Host")
	if r.Field != "" {
		r.Value = pick(d, "", "v", "a b", "-", "%\xff")
	}
	if r.Action == api.Forward && r.Method != "CONNECT" {
		r.Rewrite, r.Retries, r.Upgrade = pick(d, "", "/", "/r%2F"), d.Below(6), d.Below(2) == 0
	}
	if r.Action == api.Direct {
		r.Text = pick(d, "", "-", "some text", "\x80")
	}
	if d.Below(60) == 0 {
		pick(d,
			func() { r.Path = pick(d, "", "a", "/..", "/%61") }, func() { r.Method = pick(d, long(17), "a b") }, func() { r.Field = pick(d, long(33), "") }, func() { r.Value = pick(d, " ", long(257)) },
			func() { r.Action = d.Below(6) - 1 }, func() { r.Cluster = pick(d, "", "up", "none") }, func() { r.Status = d.Below(700) - 10 }, func() { r.Text = pick(d, "", "t", "\n") },
			func() { r.Rewrite = pick(d, "a", "/") }, func() { r.Retries = d.Below(9) - 1 }, func() { r.Timeout = pick(d, -1, 0, 1, 1<<20+1) }, func() { r.Upgrade = !r.Upgrade },
		)()
	}
	return r
}

// drawnCluster is a cluster, mostly right.
func drawnCluster(d *dice.Dice, i int) api.Cluster {
	c := cluster(pick(d, "up", "c") + digits(i))
	if i == 0 {
		c.Name = "up"
	}
	c.Policy, c.Conns, c.Pending, c.Panic = 1+d.Below(4), 1+d.Below(64), d.Below(257), d.Below(101)
	c.Hosts = times(1+d.Below(5), func(i int) string { return pick(d, "a.b:", "h:") + strconv.Itoa(1+i+10*d.Below(1000)) })
	if d.Below(40) == 0 {
		pick(d,
			func() { c.Name = pick(d, "up", "", "a b") }, func() { c.Hosts = append(c.Hosts, pick(d, "", "a", "A:1", "a:01")) }, func() { c.Hosts = append(c.Hosts, c.Hosts[0]) },
			func() { c.Hosts = nil }, func() { c.Policy = pick(d, 0, 5) }, func() { c.Fails = pick(d, 0, 1001) }, func() { c.Try = 0 }, func() { c.Eject = 0 },
		)()
	}
	return c
}

// drawnFilter is a filter, mostly right.
func drawnFilter(d *dice.Dice) api.Filter {
	f := pick(d, whole().Filters...)
	if d.Below(40) == 0 {
		pick(d, func() { f.Kind = d.Below(11) - 1 }, func() { f.Name = pick(d, "", "Via", "X") }, func() { f.Value = pick(d, "", "v", " ") }, func() { f.N = d.Below(3) }, func() { f.M = d.Below(500) }, func() { f.K = d.Below(2) })()
	}
	return f
}

// drawnConfig is a config, right more often than not.
func drawnConfig(d *dice.Dice) api.Config {
	c := bare()
	c.Conns, c.Body, c.Seed = 1+d.Below(256), d.Below(65537), int(d.Next()>>24)
	c.Filters = times(d.Below(5), func(int) api.Filter { return drawnFilter(d) })
	c.Clusters = times(1+d.Below(4), func(i int) api.Cluster { return drawnCluster(d, i) })
	c.Vhosts = times(d.Below(5), func(i int) api.Vhost {
		v := api.Vhost{Domain: pick(d, "*.h", "h") + digits(i), Routes: times(1+d.Below(4), func(int) api.Route { return drawnRoute(d) })}
		if d.Below(40) == 0 {
			v.Domain = pick(d, "*", "h00", "*.h00", "H", "")
		}
		return v
	})
	if d.Below(50) == 0 {
		pick(d, func() { c.Conns = 0 }, func() { c.Seed = 1<<40 + 1 }, func() { c.Idle = -1 }, func() { c.Budget = 257 })()
	}
	return c
}

// Configs drawn by chance, and their texts, changed in a place or two.
func TestManyConfigs(t *testing.T) {
	d := dice.New(141)
	told := map[api.Errno]int{}
	for range 6000 {
		c := drawnConfig(d)
		checkConfig(t, c)
		told[config.Check(c)]++
		if !printable(c) {
			continue
		}
		text := config.Print(c)
		for range 3 {
			i, words := d.Below(len(text)+1), strings.SplitAfter(text, " ")
			text = pick(d,
				text[:i]+pick(d, " ", "\n", "-", "%", "0", "7", "a", "\xff", "vhost h\n", " - ")+text[i:],
				text[:i]+text[min(i+1, len(text)):],
				strings.Join(slices.Delete(slices.Clone(words), d.Below(len(words)), len(words)), ""),
				strings.Join(append(words[:d.Below(len(words))], words[d.Below(len(words)):]...), ""),
			)
			checkParse(t, text)
			if text == "" {
				break
			}
		}
	}
	for _, e := range []api.Errno{api.ErrBounds, api.ErrFilter, api.ErrName, api.ErrCluster, api.ErrRoute} {
		if told[e] < 50 {
			t.Errorf("of the configs just %d are told %d", told[e], e)
		}
	}
	if told[api.OK] < 2000 {
		t.Errorf("of the configs just %d are right", told[api.OK])
	}
}

// Texts of any bytes.
func TestAnyTexts(t *testing.T) {
	d := dice.New(142)
	for range 20000 {
		s := make([]byte, d.Below(80))
		for i := range s {
			s[i] = byte(d.Below(256))
			if d.Below(4) > 0 {
				s[i] = "listenvhostroutefilterclu 0123-%*/ \n\n"[d.Below(37)]
			}
		}
		checkParse(t, string(s))
		checkParse(t, "listen 2 100 50 20 2 7\n"+string(s))
		checkParse(t, "listen 2 100 50 20 2 7\nvhost *\nroute "+string(s)+"\n")
	}
	for _, text := range []string{strings.Repeat("\n", 100000), strings.Repeat(" ", 100000), strings.Repeat("a", 100000), strings.Repeat("listen 1 1 1 1 1 1\n", 10000), "listen 1 1 1 1 1 1\n" + strings.Repeat("vhost *\n", 10000)} {
		checkParse(t, text)
		checkParse(t, text+"\n")
	}
}

// Great numbers and lists of configs that aren't right are printed, too, whatever the text.
func TestPrintOfAny(t *testing.T) {
	for _, b := range bounds() {
		for _, n := range []int{-1, -1 << 63, 1<<63 - 1} {
			c := whole()
			b.set(&c, n)
			config.Print(c)
		}
	}
	for _, b := range brokens() {
		c := whole()
		b.do(&c)
		config.Print(c)
		checkConfig(t, c)
	}
	config.Print(api.Config{})
	config.Print(api.Config{Filters: make([]api.Filter, 100), Clusters: make([]api.Cluster, 100), Vhosts: make([]api.Vhost, 100)})
}

// spare is all of a list's memory, also behind its end.
func spare[T any](list []T) []T {
	return list[:cap(list)]
}

// What is read is memory of its own: written over, and added to, it changes nothing else.
func TestMemory(t *testing.T) {
	first, _, _ := config.Parse(wholeText)
	second, _, _ := config.Parse(wholeText)
	// All of the one, its spare room, too, and no other.
	check := func(what string) {
		t.Helper()
		if !same(second, whole()) {
			t.Errorf("%s of one answer changes another", what)
			second = whole()
		}
	}
	for i := range first.Clusters {
		for j := range spare(first.Clusters[i].Hosts) {
			spare(first.Clusters[i].Hosts)[j] = "written over"
		}
		for k := i + 1; k < len(first.Clusters); k++ {
			if !slices.Equal(first.Clusters[k].Hosts, whole().Clusters[k].Hosts) {
				t.Errorf("the hosts of the cluster %d change those of %d", i, k)
			}
		}
		check("a cluster's hosts")
	}
	for i := range first.Vhosts {
		for j := range spare(first.Vhosts[i].Routes) {
			spare(first.Vhosts[i].Routes)[j] = api.Route{Text: "written over"}
		}
		for k := i + 1; k < len(first.Vhosts); k++ {
			if !slices.Equal(first.Vhosts[k].Routes, whole().Vhosts[k].Routes) {
				t.Errorf("the routes of the vhost %d change those of %d", i, k)
			}
		}
		check("a vhost's routes")
	}
	clear(spare(first.Filters))
	check("filters")
	clear(spare(first.Clusters))
	check("clusters")
	clear(spare(first.Vhosts))
	check("vhosts")
	if third, _, _ := config.Parse(wholeText); !same(third, whole()) {
		t.Error("what is read once more is another")
	}
}

// roomy is a config with spare room behind all its lists.
func roomy() api.Config {
	c := whole()
	c.Filters = append(make([]api.Filter, 0, 20), c.Filters...)
	c.Clusters = append(make([]api.Cluster, 0, 20), c.Clusters...)
	c.Vhosts = append(make([]api.Vhost, 0, 20), c.Vhosts...)
	spare(c.Filters)[len(c.Filters)] = api.Filter{Kind: 1, Name: "spare"}
	spare(c.Clusters)[len(c.Clusters)] = cluster("spare")
	spare(c.Vhosts)[len(c.Vhosts)] = api.Vhost{Domain: "spare"}
	for i := range c.Clusters {
		c.Clusters[i].Hosts = append(append(make([]string, 0, 20), c.Clusters[i].Hosts...), "spare")[:len(c.Clusters[i].Hosts)]
	}
	for i := range c.Vhosts {
		c.Vhosts[i].Routes = append(append(make([]api.Route, 0, 20), c.Vhosts[i].Routes...), api.Route{Text: "spare"})[:len(c.Vhosts[i].Routes)]
	}
	return c
}

// widest is a config with all that lies in the spare room of its lists.
func widest(c api.Config) api.Config {
	c.Filters, c.Clusters, c.Vhosts = slices.Clone(spare(c.Filters)), slices.Clone(spare(c.Clusters)), slices.Clone(spare(c.Vhosts))
	for i := range c.Clusters {
		c.Clusters[i].Hosts = spare(c.Clusters[i].Hosts)
	}
	for i := range c.Vhosts {
		c.Vhosts[i].Routes = spare(c.Vhosts[i].Routes)
	}
	return c
}

// What is handed in stays as it was, its spare room, too; and the answers stay the same.
func TestHandedIn(t *testing.T) {
	for _, b := range append(brokens(), broken{"nothing", func(*api.Config) {}, nil, api.OK}) {
		c, before := roomy(), roomy()
		b.do(&c)
		b.do(&before)
		for range 2 {
			if got := config.Check(c); got != b.e {
				t.Errorf("%s: %d, want %d", b.what, got, b.e)
			}
			text := config.Print(c)
			config.Parse(text)
			if text != printOf(before) {
				t.Errorf("%s: the text is %q, want %q", b.what, text, printOf(before))
			}
		}
		if !same(widest(c), widest(before)) {
			t.Errorf("%s: the config isn't what it was", b.what)
		}
	}
}
