package config_test

import (
	"fmt"
	"regexp"
	"slices"
	"strconv"
	"strings"

	"barbican/api"
)

// What the chapter says, told another way: what is right by patterns and by a list of all that is wrong, of which the first counts; texts by a pattern for each line.

// fault is something wrong in a config, and its place in the chapter's order.
type fault struct {
	place []int
	e     api.Errno
}

var (
	tokenForm    = regexp.MustCompile("^[0-9A-Za-z!#$%&'*+.^_|~\x60-]+$")
	hostForm     = regexp.MustCompile("^[0-9a-z.-]+$")
	upstreamForm = regexp.MustCompile("^([^:]*):([1-9][0-9]{0,4})$")
	pathForm     = regexp.MustCompile("^(?:/(?:[!\"$&-.0->@-~]|%[0-9A-F]{2})*)+$")
	plainEscape  = regexp.MustCompile("%(?:3[0-9]|4[1-9A-F]|5[0-9A]|6[1-9A-F]|7[0-9A]|2D|2E|5F|7E)")
	noNames      = regexp.MustCompile("^(?i:host|content-length|expect|x-forwarded-for|via|connection|keep-alive|proxy-connection|te|trailer|transfer-encoding|upgrade)$")
)

func tokenOf(s string, most int) bool {
	return tokenForm.MatchString(s) && len(s) <= most
}

// nameOf tells whether s is a name of a filter's field.
func nameOf(s string) bool {
	return tokenOf(s, 32) && !noNames.MatchString(s)
}

// textOf tells whether s is a text of at least so many bytes.
func textOf(s string, least int) bool {
	for _, c := range []byte(s) {
		if c < 32 && c != 9 || c == 127 {
			return false
		}
	}
	return len(s) >= least && len(s) <= 256 && strings.Trim(s, "\t ") == s
}

func hostOf(s string) bool {
	if !hostForm.MatchString(s) || len(s) > 64 {
		return false
	}
	ends := strings.Trim(s, ".-")
	return ends == s && !strings.Contains(s, "..")
}

func upstreamOf(s string) bool {
	m := upstreamForm.FindStringSubmatch(s)
	if m == nil {
		return false
	}
	port, _ := strconv.Atoi(m[2])
	return hostOf(m[1]) && port <= 65535
}

// normalOf tells whether s is a path and its own normal form: no escape that hides nothing, no piece that is left out.
func normalOf(s string) bool {
	if !pathForm.MatchString(s) || plainEscape.MatchString(s) {
		return false
	}
	closed := strings.TrimSuffix(s, "/") + "/"
	return !strings.Contains(closed, "//") && !strings.Contains(closed, "/./") && !strings.Contains(closed, "/../")
}

func between(n int, least int, most int) bool {
	return !(n < least || n > most)
}

// filterOf tells whether a filter is right, by a table of what its kind uses: a name (n), a text (t), a full text (f), or the bounds of a number.
func filterOf(f api.Filter) bool {
	uses := map[int][5]string{
		1: {"n", "t"}, 2: {"n"}, 3: {"", "", "1 1073741824", "1 1073741824", "1 1073741824"}, 4: {"n", "f"},
		5: {"", "f"}, 6: {"", "", "0 65536"}, 7: {"", "", "0 100", "400 599"}, 8: {"n", "t"},
	}
	use, known := uses[f.Kind]
	if !known {
		return false
	}
	for i, s := range []string{f.Name, f.Value} {
		switch use[i] {
		case "n":
			known = known && nameOf(s)
		case "t":
			known = known && textOf(s, 0)
		case "f":
			known = known && textOf(s, 1)
		default:
			known = known && s == ""
		}
	}
	for i, n := range []int{f.N, f.M, f.K} {
		least, most := 0, 0
		fmt.Sscan(use[2+i], &least, &most)
		known = known && between(n, least, most)
	}
	return known
}

// clusterOf tells whether all but a cluster's name is right.
func clusterOf(c api.Cluster) bool {
	seen := map[string]int{}
	for _, h := range c.Hosts {
		seen[h]++
		if !upstreamOf(h) || seen[h] > 1 {
			return false
		}
	}
	return between(c.Policy, 1, 4) && between(len(c.Hosts), 1, 16) && between(c.Conns, 1, 64) && between(c.Pending, 0, 256) &&
		between(c.Try, 1, 1048576) && between(c.Fails, 1, 1000) && between(c.Eject, 1, 1048576) && between(c.Panic, 0, 100)
}

// routeOf tells whether a route is right, the clusters having these names.
func routeOf(r api.Route, names map[string]int) bool {
	tunnel := r.Method == "CONNECT"
	wrong := []bool{
		!(normalOf(r.Path) || tunnel && r.Path == ""),
		r.Method != "" && !tokenOf(r.Method, 16),
		r.Field != "" && !tokenOf(r.Field, 32),
		r.Field == "" && r.Value != "",
		!textOf(r.Value, 0),
		!between(r.Action, 1, 3),
	}
	if r.Action == 1 {
		_, known := names[r.Cluster]
		wrong = append(wrong,
			!known, r.Status != 0, r.Text != "", r.Rewrite != "" && !normalOf(r.Rewrite), !between(r.Retries, 0, 5), !between(r.Timeout, 1, 1048576),
			tunnel && r.Rewrite != "", tunnel && r.Retries != 0, tunnel && r.Upgrade,
		)
	} else {
		wrong = append(wrong, r.Cluster != "", r.Rewrite != "", r.Retries != 0, r.Timeout != 0, r.Upgrade, !textOf(r.Text, 0))
	}
	if r.Action == 2 {
		wrong = append(wrong, r.Text == "", !slices.Contains([]int{301, 302, 307, 308}, r.Status))
	}
	if r.Action == 3 {
		wrong = append(wrong, !between(r.Status, 200, 599), r.Status == 204, r.Status == 304, tunnel && r.Status < 300)
	}
	return !slices.Contains(wrong, true)
}

// faultsOf are all that is wrong in a config, in any order.
func faultsOf(c api.Config) []fault {
	var all []fault
	tell := func(right bool, e api.Errno, place ...int) {
		if !right {
			all = append(all, fault{place, e})
		}
	}
	domains, names := map[string]int{}, map[string]int{}
	for i, cluster := range c.Clusters {
		_, twice := names[cluster.Name]
		names[cluster.Name] = i
		tell(tokenOf(cluster.Name, 32) && !twice, 142, 3, i, 0)
		tell(clusterOf(cluster), 143, 3, i, 1)
	}
	for i, v := range c.Vhosts {
		_, twice := domains[v.Domain]
		domains[v.Domain] = i
		host, under := strings.CutPrefix(v.Domain, "*.")
		tell(!twice && (v.Domain == "*" || under && hostOf(host) || hostOf(v.Domain)), 142, 4, i, 0)
		tell(between(len(v.Routes), 1, 32), 144, 4, i, 1)
		for j, r := range v.Routes {
			tell(routeOf(r, names), 144, 4, i, 1, j)
		}
	}
	for i, f := range c.Filters {
		tell(filterOf(f), 145, 2, i)
	}
	for i, list := range []int{len(c.Filters), len(c.Clusters), len(c.Vhosts)} {
		tell(list <= 32, 141, 1, i)
	}
	tell(between(c.Conns, 1, 256) && between(c.Body, 0, 65536) && between(c.Idle, 1, 1048576), 141, 1)
	tell(between(c.Grace, 1, 1048576) && between(c.Budget, 0, 256) && between(c.Seed, 0, 1099511627776), 141, 1)
	return all
}

// judged is what Check is to say.
func judged(c api.Config) api.Errno {
	all := faultsOf(c)
	if len(all) == 0 {
		return 0
	}
	return slices.MinFunc(all, func(a, b fault) int { return slices.Compare(a.place, b.place) }).e
}

// escape are the escapes of the bytes that aren't written as they are.
const escape = "%(?:[01][0-9A-F]|2[05]|7F|[89A-F][0-9A-F])"

const (
	wordPart   = "(?:%2D|(?:[!-$&-~]|" + escape + ")+)"
	numberPart = "(?:0|[1-9][0-9]{0,14})"
	flagPart   = "[01]"
)

var (
	wordForm = regexp.MustCompile("^" + wordPart + "$")
	byteForm = regexp.MustCompile("%([0-9A-F]{2})")
	// W is a word, N a number, F a flag; the blanks between are as written.
	lineForms = map[string]*regexp.Regexp{
		"listen":  lineForm("listen N N N N N N"),
		"filter":  lineForm("filter N W W N N N"),
		"cluster": lineForm("cluster W N N N N N N N( W)*"),
		"vhost":   lineForm("vhost W"),
		"route":   lineForm("route F W W W W N W N W W N N F"),
	}
)

func lineForm(form string) *regexp.Regexp {
	parts := strings.NewReplacer("W", wordPart, "N", numberPart, "F", flagPart)
	return regexp.MustCompile("^" + parts.Replace(form) + "\n$")
}

// wordOf is what Word is to give.
func wordOf(s string) string {
	switch s {
	case "":
		return "-"
	case "-":
		return "%2D"
	}
	var w strings.Builder
	for _, c := range []byte(s) {
		if c == '%' || c <= 32 || c >= 127 {
			fmt.Fprintf(&w, "%%%02X", c)
		} else {
			w.WriteByte(c)
		}
	}
	return w.String()
}

// unwordOf is what Unword is to give.
func unwordOf(w string) (string, bool) {
	if !wordForm.MatchString(w) {
		return "", false
	}
	if w == "-" {
		return "", true
	}
	return byteForm.ReplaceAllStringFunc(w, func(e string) string {
		n, _ := strconv.ParseUint(e[1:], 16, 8)
		return string([]byte{byte(n)})
	}), true
}

// printOf is what Print is to write.
func printOf(c api.Config) string {
	flag := func(is bool) int {
		return map[bool]int{true: 1}[is]
	}
	text := fmt.Sprintf("listen %d %d %d %d %d %d\n", c.Conns, c.Body, c.Idle, c.Grace, c.Budget, c.Seed)
	for _, f := range c.Filters {
		text += fmt.Sprintf("filter %d %s %s %d %d %d\n", f.Kind, wordOf(f.Name), wordOf(f.Value), f.N, f.M, f.K)
	}
	for _, c := range c.Clusters {
		text += fmt.Sprintf("cluster %s %d %d %d %d %d %d %d", wordOf(c.Name), c.Policy, c.Conns, c.Pending, c.Try, c.Fails, c.Eject, c.Panic)
		for _, h := range c.Hosts {
			text += " " + wordOf(h)
		}
		text += "\n"
	}
	for _, v := range c.Vhosts {
		text += "vhost " + wordOf(v.Domain) + "\n"
		for _, r := range v.Routes {
			text += fmt.Sprintf("route %d %s %s %s %s %d %s %d %s %s %d %d %d\n", flag(r.Prefix), wordOf(r.Path), wordOf(r.Method), wordOf(r.Field), wordOf(r.Value),
				r.Action, wordOf(r.Cluster), r.Status, wordOf(r.Text), wordOf(r.Rewrite), r.Retries, r.Timeout, flag(r.Upgrade))
		}
	}
	return text
}

// parts gives a line's words as numbers, where they are, and as texts.
func parts(line string) (func(int) int, func(int) string, int) {
	words := strings.Split(strings.TrimSuffix(line, "\n"), " ")
	number := func(i int) int {
		n, _ := strconv.Atoi(words[i])
		return n
	}
	text := func(i int) string {
		s, _ := unwordOf(words[i])
		return s
	}
	return number, text, len(words)
}

// formOf is which of the lines a line is, or none.
func formOf(line string) string {
	for kind, form := range lineForms {
		if form.MatchString(line) {
			return kind
		}
	}
	return ""
}

// readOf is what a text says, and -1; or the number of the first line that isn't of the form.
func readOf(text string) (api.Config, int) {
	var c api.Config
	all := strings.SplitAfter(text, "\n")
	for i, line := range all {
		if i > 0 && i == len(all)-1 && line == "" {
			break
		}
		kind := formOf(line)
		if kind == "" || (kind == "listen") != (i == 0) || kind == "route" && len(c.Vhosts) == 0 {
			return api.Config{}, i
		}
		n, s, count := parts(line)
		switch kind {
		case "listen":
			c = api.Config{Conns: n(1), Body: n(2), Idle: n(3), Grace: n(4), Budget: n(5), Seed: n(6)}
		case "filter":
			c.Filters = append(c.Filters, api.Filter{Kind: n(1), Name: s(2), Value: s(3), N: n(4), M: n(5), K: n(6)})
		case "cluster":
			cluster := api.Cluster{Name: s(1), Policy: n(2), Conns: n(3), Pending: n(4), Try: n(5), Fails: n(6), Eject: n(7), Panic: n(8)}
			for i := 9; i < count; i++ {
				cluster.Hosts = append(cluster.Hosts, s(i))
			}
			c.Clusters = append(c.Clusters, cluster)
		case "vhost":
			c.Vhosts = append(c.Vhosts, api.Vhost{Domain: s(1)})
		case "route":
			v := &c.Vhosts[len(c.Vhosts)-1]
			v.Routes = append(v.Routes, api.Route{Prefix: n(1) == 1, Path: s(2), Method: s(3), Field: s(4), Value: s(5), Action: n(6), Cluster: s(7),
				Status: n(8), Text: s(9), Rewrite: s(10), Retries: n(11), Timeout: n(12), Upgrade: n(13) == 1})
		}
	}
	return c, -1
}

// parseOf is what Parse is to answer.
func parseOf(text string) (api.Config, int, api.Errno) {
	c, line := readOf(text)
	if line >= 0 {
		return api.Config{}, line, 140
	}
	if e := judged(c); e != 0 {
		return api.Config{}, 0, e
	}
	return c, 0, 0
}

// printable tells whether all numbers of a config can be written as numbers of its text.
func printable(c api.Config) bool {
	all := []int{c.Conns, c.Body, c.Idle, c.Grace, c.Budget, c.Seed}
	for _, f := range c.Filters {
		all = append(all, f.Kind, f.N, f.M, f.K)
	}
	for _, c := range c.Clusters {
		all = append(all, c.Policy, c.Conns, c.Pending, c.Try, c.Fails, c.Eject, c.Panic)
	}
	for _, v := range c.Vhosts {
		for _, r := range v.Routes {
			all = append(all, r.Action, r.Status, r.Retries, r.Timeout)
		}
	}
	return !slices.ContainsFunc(all, func(n int) bool { return n < 0 || n > 999999999999999 })
}

// same tells whether two configs are the same, an empty list being one whether it is nil or not.
func same(a api.Config, b api.Config) bool {
	return a.Conns == b.Conns && a.Body == b.Body && a.Idle == b.Idle && a.Grace == b.Grace && a.Budget == b.Budget && a.Seed == b.Seed &&
		slices.Equal(a.Filters, b.Filters) &&
		slices.EqualFunc(a.Clusters, b.Clusters, func(a, b api.Cluster) bool {
			return a.Name == b.Name && a.Policy == b.Policy && slices.Equal(a.Hosts, b.Hosts) && a.Conns == b.Conns && a.Pending == b.Pending &&
				a.Try == b.Try && a.Fails == b.Fails && a.Eject == b.Eject && a.Panic == b.Panic
		}) &&
		slices.EqualFunc(a.Vhosts, b.Vhosts, func(a, b api.Vhost) bool {
			return a.Domain == b.Domain && slices.Equal(a.Routes, b.Routes)
		})
}
