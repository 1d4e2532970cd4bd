package config

import (
	"strconv"
	"strings"

	"barbican/api"
	"barbican/lex"
)

// What stands at the beginning of each line.
const (
	listenWord  = "listen"
	filterWord  = "filter"
	clusterWord = "cluster"
	vhostWord   = "vhost"
	routeWord   = "route"
)

const (
	blank   = " "
	lineEnd = "\n"
)

const mostDigits = 15

// Print writes a config.
func Print(c api.Config) string {
	var t strings.Builder
	t.WriteString(lineOf(listenWord, decimal(c.Conns), decimal(c.Body), decimal(c.Idle), decimal(c.Grace), decimal(c.Budget), decimal(c.Seed)))
	for _, f := range c.Filters {
		t.WriteString(lineOf(filterWord, decimal(f.Kind), Word(f.Name), Word(f.Value), decimal(f.N), decimal(f.M), decimal(f.K)))
	}
	for _, cluster := range c.Clusters {
		t.WriteString(clusterLine(cluster))
	}
	for _, v := range c.Vhosts {
		t.WriteString(lineOf(vhostWord, Word(v.Domain)))
		for _, r := range v.Routes {
			t.WriteString(routeLine(r))
		}
	}
	return t.String()
}

// clusterLine is a cluster's line.
func clusterLine(c api.Cluster) string {
	parts := []string{
		clusterWord, Word(c.Name), decimal(c.Policy), decimal(c.Conns), decimal(c.Pending),
		decimal(c.Try), decimal(c.Fails), decimal(c.Eject), decimal(c.Panic),
	}
	for _, host := range c.Hosts {
		parts = append(parts, Word(host))
	}
	return lineOf(parts...)
}

// routeLine is a route's line.
func routeLine(r api.Route) string {
	return lineOf(
		routeWord, flag(r.Prefix), Word(r.Path), Word(r.Method), Word(r.Field), Word(r.Value),
		decimal(r.Action), Word(r.Cluster), decimal(r.Status), Word(r.Text), Word(r.Rewrite),
		decimal(r.Retries), decimal(r.Timeout), flag(r.Upgrade),
	)
}

// lineOf is the line of these words.
func lineOf(parts ...string) string {
	return strings.Join(parts, blank) + lineEnd
}

// decimal is the word for a number.
func decimal(n int) string {
	return strconv.Itoa(n)
}

// flag is the word for a truth.
func flag(is bool) string {
	if is {
		return "1"
	}
	return "0"
}

// Parse reads a config.
func Parse(text string) (api.Config, int, api.Errno) {
	c, number, ok := read(text)
	if !ok {
		return api.Config{}, number, api.ErrText
	}
	if e := Check(c); e != api.OK {
		return api.Config{}, 0, e
	}
	return c, 0, api.OK
}

// read reads a config that may not be right; else it tells the number of the line that isn't of the form, and false.
func read(text string) (api.Config, int, bool) {
	var c api.Config
	number := 0
	for text != "" {
		line, rest, ended := strings.Cut(text, lineEnd)
		if !ended || !addLine(&c, line, number == 0) {
			return api.Config{}, number, false
		}
		text = rest
		number++
	}
	return c, 0, number > 0
}

// addLine puts what a line tells into a config; false, if the line isn't of the form.
func addLine(c *api.Config, line string, first bool) bool {
	w := words{rest: line}
	beginning := w.next()
	if first != (beginning == listenWord) {
		return false
	}
	switch beginning {
	case listenWord:
		c.Conns, c.Body, c.Idle, c.Grace, c.Budget, c.Seed = w.number(), w.number(), w.number(), w.number(), w.number(), w.number()
	case filterWord:
		c.Filters = append(c.Filters, w.filter())
	case clusterWord:
		c.Clusters = append(c.Clusters, w.cluster())
	case vhostWord:
		c.Vhosts = append(c.Vhosts, api.Vhost{Domain: w.text()})
	case routeWord:
		if len(c.Vhosts) == 0 {
			return false
		}
		last := &c.Vhosts[len(c.Vhosts)-1]
		last.Routes = append(last.Routes, w.route())
	default:
		return false
	}
	return !w.wrong && !w.left
}

// words are a line's words, taken one after the other. One that isn't what it is taken for, or isn't there, makes them wrong; so a line is judged when all that it tells has been taken.
type words struct {
	rest  string
	left  bool // whether a word stands behind the one that was taken, be it an empty one
	wrong bool
}

// next takes a word as it is written. If none is left it is empty, which is right for nothing.
func (w *words) next() string {
	word, rest, more := strings.Cut(w.rest, blank)
	w.rest, w.left = rest, more
	return word
}

// text takes a text.
func (w *words) text() string {
	s, ok := Unword(w.next())
	if !ok {
		w.wrong = true
	}
	return s
}

// number takes a number.
func (w *words) number() int {
	word := w.next()
	n, ok := lex.Decimal(word, mostDigits)
	if !ok || len(word) > 1 && word[0] == '0' {
		w.wrong = true
	}
	return n
}

// flag takes a truth.
func (w *words) flag() bool {
	word := w.next()
	if word != flag(true) && word != flag(false) {
		w.wrong = true
	}
	return word == flag(true)
}

// filter takes what a filter has. Here as in cluster and route the words are taken in the order in which the parts are written.
func (w *words) filter() api.Filter {
	return api.Filter{Kind: w.number(), Name: w.text(), Value: w.text(), N: w.number(), M: w.number(), K: w.number()}
}

// cluster takes what a cluster has.
func (w *words) cluster() api.Cluster {
	c := api.Cluster{
		Name: w.text(), Policy: w.number(), Conns: w.number(), Pending: w.number(),
		Try: w.number(), Fails: w.number(), Eject: w.number(), Panic: w.number(),
	}
	// How many hosts there must be is for Check to tell.
	for w.left {
		c.Hosts = append(c.Hosts, w.text())
	}
	return c
}

// route takes what a route has.
func (w *words) route() api.Route {
	return api.Route{
		Prefix: w.flag(), Path: w.text(), Method: w.text(), Field: w.text(), Value: w.text(),
		Action: w.number(), Cluster: w.text(), Status: w.number(), Text: w.text(), Rewrite: w.text(),
		Retries: w.number(), Timeout: w.number(), Upgrade: w.flag(),
	}
}
