package fields_test

import (
	"regexp"
	"slices"
	"strconv"
	"strings"
	"testing"

	"barbican/api"
	"barbican/dice"
	"barbican/fields"
)

// The forms of a name and a value, for texts whose bytes are written as runes.
var (
	nameForm  = regexp.MustCompile("^[0-9A-Za-z!#$%&'*+.^_|~`-]+$")
	valueForm = regexp.MustCompile(`^([\x21-\x7e\x{80}-\x{ff}]([\t\x20-\x7e\x{80}-\x{ff}]*[\x21-\x7e\x{80}-\x{ff}])?)?$`)
)

// theSeven are the names that concern one connection alone, whatever is told.
var theSeven = []string{"connection", "keep-alive", "proxy-connection", "te", "trailer", "transfer-encoding", "upgrade"}

// one is a text of one byte.
func one(c int) string {
	return string([]byte{byte(c)})
}

// runes writes each byte of s as the rune of its number.
func runes(s string) string {
	var text []rune
	for _, c := range []byte(s) {
		text = append(text, rune(c))
	}
	return string(text)
}

// small writes each large letter as the small one.
func small(s string) string {
	text := []byte(s)
	for i := range text {
		if text[i] >= 65 && text[i] <= 90 {
			text[i] += 32
		}
	}
	return string(text)
}

// large writes each small letter as the large one.
func large(s string) string {
	text := []byte(s)
	for i := range text {
		if text[i] >= 97 && text[i] <= 122 {
			text[i] -= 32
		}
	}
	return string(text)
}

// mixed writes each other letter large, beginning with a small one.
func mixed(s string) string {
	text := []byte(small(s))
	for i := 1; i < len(text); i += 2 {
		text[i] = large(s)[i]
	}
	return string(text)
}

// cases are the ways to write a name.
func cases(name string) []string {
	return []string{name, small(name), large(name), mixed(name)}
}

// list is a list of fields, by names and values in turn.
func list(texts ...string) []api.Field {
	l := []api.Field{}
	for i := 0; i < len(texts); i += 2 {
		l = append(l, api.Field{Name: texts[i], Value: texts[i+1]})
	}
	return l
}

// many is a list of n right fields.
func many(n int) []api.Field {
	l := []api.Field{}
	for i := range n {
		l = append(l, api.Field{Name: "N" + strconv.Itoa(i), Value: "v" + strconv.Itoa(i)})
	}
	return l
}

// The calls, in another way.

func check(l []api.Field) api.Errno {
	for _, f := range l {
		if !nameForm.MatchString(runes(f.Name)) || !valueForm.MatchString(runes(f.Value)) || len(f.Name+f.Value) > 512 {
			return 70
		}
	}
	if len(l) >= 33 {
		return 71
	}
	return 0
}

// allOf are all values of a name.
func allOf(l []api.Field, name string) []string {
	var all []string
	for i := range l {
		if small(l[i].Name) == small(name) {
			all = append(all, l[i].Value)
		}
	}
	return all
}

func get(l []api.Field, name string) (string, int) {
	all := allOf(l, name)
	if len(all) == 0 {
		return "", 0
	}
	return all[0], len(all)
}

// elements takes all fields of a name as one, with commas between their values.
func elements(l []api.Field, name string) []string {
	var kept []string
	for _, piece := range strings.Split(strings.Join(allOf(l, name), ","), ",") {
		if piece = strings.Trim(piece, "\x20\x09"); len(piece) > 0 {
			kept = append(kept, piece)
		}
	}
	return kept
}

func has(l []api.Field, name string, element string) bool {
	for _, e := range elements(l, name) {
		if small(e) == small(element) {
			return true
		}
	}
	return false
}

// remove takes one field after the other out of a copy.
func remove(l []api.Field, name string) []api.Field {
	left := append([]api.Field{}, l...)
	for i := len(left) - 1; i >= 0; i-- {
		if small(left[i].Name) == small(name) {
			left = append(left[:i], left[i+1:]...)
		}
	}
	return left
}

func set(l []api.Field, name string, value string) []api.Field {
	return append(remove(l, name), list(name, value)...)
}

// strip removes one name after the other.
func strip(l []api.Field) []api.Field {
	names := append(elements(l, "connection"), theSeven...)
	for _, name := range names {
		l = remove(l, name)
	}
	return l
}

// What is wanted.

func wantCheck(t *testing.T, l []api.Field, want api.Errno) {
	t.Helper()
	if got := fields.Check(l); got != want {
		t.Errorf("Check(%q) = %d, want %d", l, got, want)
	}
}

func wantGet(t *testing.T, l []api.Field, name string, want string, count int) {
	t.Helper()
	if got, n := fields.Get(l, name); got != want || n != count {
		t.Errorf("Get(%q, %q) = %q, %d, want %q, %d", l, name, got, n, want, count)
	}
}

func wantElements(t *testing.T, l []api.Field, name string, want ...string) {
	t.Helper()
	if got := fields.Elements(l, name); !slices.Equal(got, want) {
		t.Errorf("Elements(%q, %q) = %q, want %q", l, name, got, want)
	}
}

func wantHas(t *testing.T, l []api.Field, name string, element string, want bool) {
	t.Helper()
	if got := fields.Has(l, name, element); got != want {
		t.Errorf("Has(%q, %q, %q) = %v, want %v", l, name, element, got, want)
	}
}

func wantRemove(t *testing.T, l []api.Field, name string, want []api.Field) {
	t.Helper()
	if got := fields.Remove(l, name); !slices.Equal(got, want) {
		t.Errorf("Remove(%q, %q) = %q, want %q", l, name, got, want)
	}
}

func wantSet(t *testing.T, l []api.Field, name string, value string, want []api.Field) {
	t.Helper()
	if got := fields.Set(l, name, value); !slices.Equal(got, want) {
		t.Errorf("Set(%q, %q, %q) = %q, want %q", l, name, value, got, want)
	}
}

func wantStrip(t *testing.T, l []api.Field, want []api.Field) {
	t.Helper()
	if got := fields.Strip(l); !slices.Equal(got, want) {
		t.Errorf("Strip(%q) = %q, want %q", l, got, want)
	}
}

// wantAll holds all calls against those written in another way.
func wantAll(t *testing.T, l []api.Field, name string, text string) {
	t.Helper()
	wantCheck(t, l, check(l))
	value, count := get(l, name)
	wantGet(t, l, name, value, count)
	wantElements(t, l, name, elements(l, name)...)
	wantHas(t, l, name, text, has(l, name, text))
	wantRemove(t, l, name, remove(l, name))
	wantSet(t, l, name, text, set(l, name, text))
	wantStrip(t, l, strip(l))
}

// The chapter's examples.
func TestExamples(t *testing.T) {
	l := list("Connection", "close, X-A", "x-a", "1", "Host", "h", "TE", "trailers")
	wantStrip(t, l, list("Host", "h"))
	wantHas(t, l, "connection", "CLOSE", true)
	wantGet(t, l, "X-A", "1", 1)
	wantSet(t, l, "host", "g", list("Connection", "close, X-A", "x-a", "1", "TE", "trailers", "host", "g"))
}

func TestNumbers(t *testing.T) {
	if api.ErrField != 70 || api.ErrFields != 71 {
		t.Error("the errors have other numbers")
	}
	if api.MaxField != 512 || api.MaxFields != 32 {
		t.Error("the limits have other numbers")
	}
}

// An empty list, and one that is nil.
func TestEmptyLists(t *testing.T) {
	for _, l := range [][]api.Field{nil, {}, make([]api.Field, 0, 8), list("A", "b")[:0]} {
		wantCheck(t, l, api.OK)
		for _, name := range []string{"", "A", "Connection", "\xff"} {
			wantGet(t, l, name, "", 0)
			wantElements(t, l, name)
			wantHas(t, l, name, "", false)
			wantHas(t, l, name, "close", false)
			wantRemove(t, l, name, nil)
			wantSet(t, l, name, "v", list(name, "v"))
			wantSet(t, l, name, "", list(name, ""))
		}
		wantStrip(t, l, nil)
	}
}

// P7.1: names and values.

func TestCheckOfRightFields(t *testing.T) {
	for _, l := range [][]api.Field{
		list("Host", "h"), list("a", ""), list("A", "b c"), list("X", "a\tb"), list("!#$%&'*+-.^_|~`09azAZ", "~!"), list("x", "\x80\xff"), list("x", ","), list("x", "\"a, b\""),
		list("Host", "h", "Host", "g"), list("Connection", "close", "TE", "trailers"), list("Content-Length", "x"), list("a", "b", "c", "", "d", "e f"),
	} {
		wantCheck(t, l, api.OK)
		wantCheck(t, append(many(31-len(l)), l...), api.OK)
	}
}

func TestCheckOfWrongFields(t *testing.T) {
	for _, wrong := range [][]api.Field{
		list("", ""), list("", "v"), list(" ", "v"), list(" A", "v"), list("A ", "v"), list("A\t", "v"), list("A B", "v"), list("A:", "v"), list(":", "v"), list("A,B", "v"), list("A\r\n", "v"), list("(A)", "v"), list("A/B", "v"), list("A@", "v"), list("A\x00", "v"), list("A\x7f", "v"), list("\xc3\x84", "v"), list("A\xff", "v"), list("\"A\"", "v"),
		list("A", " "), list("A", "\t"), list("A", " v"), list("A", "v "), list("A", "\tv"), list("A", "v\t"), list("A", "v\r\nB: c"), list("A", "v\n"), list("A", "\r"), list("A", "a\x00b"), list("A", "\x7f"), list("A", "a\x1fb"), list("A", "\x0b"),
		list(" A", " v"), list("", " "),
	} {
		wantCheck(t, wrong, api.ErrField)
		wantCheck(t, append(list("A", "b"), wrong...), api.ErrField)
		wantCheck(t, append(wrong, list("A", "b")...), api.ErrField)
		wantCheck(t, append(append(list("A", "b"), wrong...), list("C", "d")...), api.ErrField)
		wantCheck(t, append(many(31), wrong...), api.ErrField)
		wantCheck(t, append(wrong, wrong...), api.ErrField)
	}
}

func TestCheckOfEachByte(t *testing.T) {
	for c := range 256 {
		s := one(c)
		for _, text := range []string{s, s + "b", "a" + s, "a" + s + "b", s + s, "a" + s + s + "b"} {
			wantCheck(t, list(text, "v"), check(list(text, "v")))
			wantCheck(t, list("N", text), check(list("N", text)))
			wantCheck(t, list("N", "v", text, ""), check(list(text, "v")))
			wantCheck(t, list("N", text, "N", "v"), check(list("N", text)))
		}
	}
}

func TestCheckOfLengths(t *testing.T) {
	for name := 1; name <= 520; name++ {
		for _, value := range []int{0, 1, 255, 256, 511 - name, 512 - name, 513 - name, 514 - name} {
			if value < 0 {
				continue
			}
			want := api.OK
			if name+value > 512 {
				want = api.ErrField
			}
			for _, text := range []string{"v", "\xff", "~"} {
				l := list(strings.Repeat("n", name), strings.Repeat(text, value))
				wantCheck(t, l, want)
				wantCheck(t, append(many(5), l...), want)
				wantCheck(t, append(l, many(5)...), want)
			}
		}
	}
	// The bound is the limit's, and of one field alone.
	full := list("n", strings.Repeat("v", api.MaxField-1))
	wantCheck(t, full, api.OK)
	wantCheck(t, append(full, full...), api.OK)
	wantCheck(t, list("nn", strings.Repeat("v", api.MaxField-1)), api.ErrField)
	wantCheck(t, list("n", strings.Repeat("v", api.MaxField)), api.ErrField)
	wantCheck(t, list(strings.Repeat("n", api.MaxField), ""), api.OK)
	wantCheck(t, list(strings.Repeat("n", api.MaxField+1), ""), api.ErrField)
	// Bytes are counted, not runes.
	wantCheck(t, list("nn", strings.Repeat("\u00e9", 255)), api.OK)
	wantCheck(t, list("nnn", strings.Repeat("\u00e9", 255)), api.ErrField)
	wantCheck(t, list("n", strings.Repeat("v", 100000)), api.ErrField)
	wantCheck(t, list("n", "v"+strings.Repeat(" ", 511)), api.ErrField)
}

// P7.1: how many fields there are.

func TestCheckOfNumbers(t *testing.T) {
	for n := range 100 {
		want := api.OK
		if n > 32 {
			want = api.ErrFields
		}
		wantCheck(t, many(n), want)
		same := slices.Repeat(list("a", ""), n)
		wantCheck(t, same, want)
	}
	wantCheck(t, many(api.MaxFields), api.OK)
	wantCheck(t, many(api.MaxFields+1), api.ErrFields)
	wantCheck(t, many(100000), api.ErrFields)
}

// A field that isn't right is told ahead of too many, wherever it stands.
func TestCheckOfAWrongFieldAmongTooMany(t *testing.T) {
	for _, n := range []int{1, 2, 31, 32, 33, 34, 64} {
		for at := range n {
			l := many(n)
			l[at].Name = "a b"
			wantCheck(t, l, api.ErrField)
			l = many(n)
			l[at].Value = "a "
			wantCheck(t, l, api.ErrField)
			l = many(n)
			l[at].Value = strings.Repeat("v", 512)
			wantCheck(t, l, api.ErrField)
		}
	}
	wantCheck(t, append(many(100000), list("", "")...), api.ErrField)
}

// P7.2: Get.

func TestGet(t *testing.T) {
	l := list("Host", "h", "X-A", "1", "x-a", "2", "Accept", "", "X-a", "3", "accept", "x")
	for _, name := range cases("Host") {
		wantGet(t, l, name, "h", 1)
	}
	for _, name := range cases("X-A") {
		wantGet(t, l, name, "1", 3)
	}
	for _, name := range cases("Accept") {
		wantGet(t, l, name, "", 2)
	}
	for _, name := range []string{"", "Hos", "Hostt", "ost", "X", "X-", "X_A", "X-A ", " X-A", "X-A:", "h", "1", "Via", "\x00", "Host\x00", "X-A,Host"} {
		wantGet(t, l, name, "", 0)
	}
}

// A name at the beginning, amid and at the end, there never, once and often.
func TestOfAllPlaces(t *testing.T) {
	for places := range 1 << 6 {
		var l, others []api.Field
		var values []string
		for i := range 6 {
			if places>>i&1 == 0 {
				others = append(others, api.Field{Name: "Y", Value: "y" + strconv.Itoa(i)})
				l = append(l, others[len(others)-1])
				continue
			}
			values = append(values, "v"+strconv.Itoa(i))
			l = append(l, api.Field{Name: cases("Name")[i%4], Value: values[len(values)-1]})
		}
		first := ""
		if len(values) > 0 {
			first = values[0]
		}
		for _, name := range cases("Name") {
			wantGet(t, l, name, first, len(values))
			wantElements(t, l, name, values...)
			wantRemove(t, l, name, others)
			wantSet(t, l, name, "w", append(slices.Clone(others), api.Field{Name: name, Value: "w"}))
			for i := range 6 {
				wantHas(t, l, name, "V"+strconv.Itoa(i), places>>i&1 == 1)
				wantHas(t, l, name, "y"+strconv.Itoa(i), false)
			}
		}
	}
}

// Names are alike but for the case of the letters A to Z.
func TestNamesOfEachPairOfBytes(t *testing.T) {
	for a := range 256 {
		for b := range 256 {
			l := list(one(a), "v")
			want, left := 0, l
			if a == b || min(a, b) >= 65 && min(a, b) <= 90 && max(a, b) == min(a, b)+32 {
				want, left = 1, nil
			}
			if _, n := fields.Get(l, one(b)); n != want {
				t.Fatalf("Get(%q, %q) counts %d, want %d", l, one(b), n, want)
			}
			if got := fields.Remove(l, one(b)); !slices.Equal(got, left) {
				t.Fatalf("Remove(%q, %q) = %q", l, one(b), got)
			}
			told := list("a"+one(a)+"a", "v", "Connection", "A"+one(b)+"A")
			if got := fields.Strip(told); b != ',' && len(got) != 1-want {
				t.Fatalf("Strip(%q) = %q", told, got)
			}
			held := list("N", "a"+one(a)+"a")
			if got := fields.Has(held, "n", "A"+one(b)+"A"); a != ',' && got != (want == 1) {
				t.Fatalf("Has(%q, n, %q) = %v", held, "A"+one(b)+"A", got)
			}
		}
	}
}

// P7.2: Elements.

func TestElements(t *testing.T) {
	of := func(value string, want ...string) {
		t.Helper()
		for _, name := range cases("Accept") {
			wantElements(t, list("Host", "x, y", "aCCept", value, "accept-not", "z"), name, want...)
		}
	}
	of("")
	of(",")
	of(",,,")
	of(" , \t,")
	of("a", "a")
	of("a,b", "a", "b")
	of("a, ,b ,", "a", "b")
	of("\ta \t, b\t", "a", "b")
	of(",,a,,b,,", "a", "b")
	of("b, a, b", "b", "a", "b")
	of("a b, c\td", "a b", "c\td")
	of("A, a", "A", "a")
	of("\"a, b\"", "\"a", "b\"")
	of("a;q=1, \x80\xff", "a;q=1", "\x80\xff")
	of("a\r\n, \n", "a\r\n", "\n")
	wantElements(t, list("Host", "x, y"), "Accept")
	wantElements(t, list("Host", "x, y"), "x")
}

func TestElementsOfSeveralFields(t *testing.T) {
	l := list("Te", "c, a", "Via", "x", "TE", "", "te", ",b ,, a", "tE", " , ", "Via", "y, z", "TE", "d")
	for _, name := range cases("TE") {
		wantElements(t, l, name, "c", "a", "b", "a", "d")
	}
	wantElements(t, l, "via", "x", "y", "z")
	wantElements(t, l, "vi")
	// What one field leaves open the next doesn't go on with.
	wantElements(t, list("a", "x", "a", "y", "a", "\"p", "a", "q\""), "a", "x", "y", "\"p", "q\"")
	wantElements(t, list("a", "x ", "a", " y"), "a", "x", "y")
}

// P7.2: Has.

func TestHas(t *testing.T) {
	l := list("Connection", "keep-alive, Upgrade", "Host", "close", "connection", " , X-A\t,,a b")
	for _, name := range cases("Connection") {
		for _, element := range []string{"keep-alive", "upgrade", "x-a", "a b"} {
			for _, element := range cases(element) {
				wantHas(t, l, name, element, true)
			}
		}
		for _, element := range []string{"", " ", ",", "close", "keep", "alive", "keep-aliv", "eep-alive", "keep-alivee", "keep-alive ", " keep-alive", "keep-alive,", "keep-alive, Upgrade", "X", "X-", "-A", "x_a", "X-A\t", "a", "b", "a  b", "a\tb", "host", "\x00", "X-A\x00"} {
			wantHas(t, l, name, element, false)
		}
	}
	for _, name := range []string{"", "Connectio", "Connections", "Host ", "X-A", "keep-alive"} {
		wantHas(t, l, name, "close", false)
		wantHas(t, l, name, "x-a", false)
	}
	wantHas(t, l, "host", "CLOSE", true)
}

func TestHasOfTheEmptyElement(t *testing.T) {
	for _, value := range []string{"", ",", " ", ",,", " , ", "a", "a,", ",a", "a,,b"} {
		wantHas(t, list("n", value), "n", "", false)
		wantHas(t, list("n", value), "n", " ", false)
		wantHas(t, list("n", value, "n", ""), "n", "", false)
		wantHas(t, list("", value), "", "", false)
	}
	wantHas(t, list("", "a"), "", "a", true)
}

// P7.3: Remove and Set.

func TestRemove(t *testing.T) {
	l := list("Host", "h", "X-A", "1", "Via", "a", "x-a", "2", "Via", "b", "X-a", "3")
	for _, name := range cases("X-A") {
		wantRemove(t, l, name, list("Host", "h", "Via", "a", "Via", "b"))
	}
	for _, name := range cases("via") {
		wantRemove(t, l, name, list("Host", "h", "X-A", "1", "x-a", "2", "X-a", "3"))
	}
	for _, name := range cases("host") {
		wantRemove(t, l, name, l[1:])
		wantRemove(t, l[:1], name, nil)
	}
	for _, name := range []string{"", "X", "X-A ", " X-A", "X-AA", "1", "h", "\x00"} {
		wantRemove(t, l, name, l)
	}
	wantRemove(t, slices.Repeat(list("a", "1", "A", "2"), 50), "a", nil)
}

func TestSet(t *testing.T) {
	l := list("Host", "h", "X-A", "1", "Via", "a", "x-a", "2", "Via", "b")
	for _, name := range cases("Host") {
		wantSet(t, l, name, "g", append(list("X-A", "1", "Via", "a", "x-a", "2", "Via", "b"), api.Field{Name: name, Value: "g"}))
	}
	for _, name := range cases("X-A") {
		wantSet(t, l, name, "3", append(list("Host", "h", "Via", "a", "Via", "b"), api.Field{Name: name, Value: "3"}))
	}
	for _, name := range cases("Via") {
		wantSet(t, l, name, "", append(list("Host", "h", "X-A", "1", "x-a", "2"), api.Field{Name: name}))
	}
	for _, name := range append(cases("New"), "Hos", "Hostt", "X-A ", "", "a b", "\xff\x00") {
		for _, value := range []string{"v", "", " v ", "a, b", "\r\n", "\xff", strings.Repeat("v", 1000)} {
			wantSet(t, l, name, value, append(slices.Clone(l), api.Field{Name: name, Value: value}))
		}
	}
	// Even where the field stood as it is to be, it goes to the end.
	wantSet(t, list("A", "1", "B", "2"), "A", "1", list("B", "2", "A", "1"))
	wantSet(t, list("A", "1", "B", "2"), "B", "2", list("A", "1", "B", "2"))
	wantSet(t, many(40), "N39", "v39", many(40))
}

// P7.3: Strip.

func TestStripOfTheSeven(t *testing.T) {
	for _, name := range theSeven {
		for _, name := range cases(name) {
			wantStrip(t, list(name, "x"), nil)
			wantStrip(t, list(name, ""), nil)
			wantStrip(t, list("A", "1", name, "x", "B", "2", name, "y", "a", "3"), list("A", "1", "B", "2", "a", "3"))
			for _, other := range []string{name + "s", name[:len(name)-1], name[1:], "x" + name, name + " ", " " + name, name + ":", "X-" + name, "-" + name, name + "\x00"} {
				wantStrip(t, list(other, "x", name, ""), list(other, "x"))
			}
		}
	}
	var all []api.Field
	for _, name := range theSeven {
		all = append(all, api.Field{Name: mixed(name), Value: "x-x"})
	}
	wantStrip(t, all, nil)
	wantStrip(t, append(list("Host", "h"), append(all, list("Via", "v")...)...), list("Host", "h", "Via", "v"))
}

// Fields that concern more than one connection stay, as they are.
func TestStripOfOthers(t *testing.T) {
	l := list("Host", "h", "Content-Length", "3", "Via", "1.1 a", "Via", "1.1 b", "X-Forwarded-For", "1", "Proxy-Authorization", "x", "Trailers", "t", "Accept-Encoding", "gzip", "VIA", "1.0 c", "", "", "a b", " c ", "\xff", "\x00", "Upgrade-Insecure-Requests", "1", "Close", "c")
	wantStrip(t, l, l)
	wantStrip(t, append(slices.Clone(l), list("TE", "Host, Via", "Upgrade", "Via", "Keep-Alive", "close", "Proxy-Connection", "Host")...), l)
	wantStrip(t, append(slices.Clone(l), list("Connection", "", "Connection", " , ,,\t", "Connection", ",")...), l)
	wantStrip(t, append(slices.Clone(l), list("Connections", "Via", "X-Connection", "Host", "Conn", "close")...), append(slices.Clone(l), list("Connections", "Via", "X-Connection", "Host", "Conn", "close")...))
}

func TestStripOfToldNames(t *testing.T) {
	for _, connection := range cases("Connection") {
		for _, told := range cases("X-Told") {
			for _, name := range cases("X-Told") {
				for _, value := range []string{told, "a, " + told, told + ", a", ",,\t" + told + " ,", "keep-alive, " + told + ", close", told + "," + told} {
					// Ahead of the field that it tells, behind it, and amid.
					wantStrip(t, list(connection, value, "Host", "h", name, "1"), list("Host", "h"))
					wantStrip(t, list(name, "1", "Host", "h", connection, value), list("Host", "h"))
					wantStrip(t, list(name, "1", connection, value, "Host", "h", name, "2"), list("Host", "h"))
				}
				for _, value := range []string{"X", "Told", "X-Tol", "X-Tolds", "X Told", "X-Told;a", "\"X-Told\"", "X-Told X-Told", "X-Told=1", "-", "X_Told"} {
					wantStrip(t, list(connection, value, name, "1", "B", "2"), list(name, "1", "B", "2"))
				}
			}
		}
	}
}

func TestStripOfSeveralConnections(t *testing.T) {
	l := list("C", "3", "A", "1", "Connection", "a", "Host", "h", "B", "2", "connection", "c, , b", "D", "4", "a", "5", "CONNECTION", "e", "d", "6", "E", "7")
	wantStrip(t, l, list("Host", "h", "D", "4", "d", "6"))
	// A name that is itself, one of the seven, none that is there, no token, or one that many need.
	wantStrip(t, list("Connection", "connection", "A", "1"), list("A", "1"))
	wantStrip(t, list("Connection", "Connection, A", "A", "1", "Connection", "B", "B", "2", "C", "3"), list("C", "3"))
	wantStrip(t, list("A", "1", "TE", "x", "Connection", "TE", "B", "2", "te", "y"), list("A", "1", "B", "2"))
	wantStrip(t, list("A", "1", "Connection", "nowhere", "B", "2"), list("A", "1", "B", "2"))
	wantStrip(t, list("A", "1", "Connection", "Host, Content-Length", "Host", "h", "content-length", "3"), list("A", "1"))
	wantStrip(t, list("a b", "1", "Connection", "A B, \xff\x00", "\xff\x00", "2", "a", "3"), list("a", "3"))
	// What the field that is told says itself is not looked at.
	wantStrip(t, list("Connection", "A", "A", "B", "B", "2"), list("B", "2"))
	wantStrip(t, list("Connection", "Keep-Alive", "Keep-Alive", "timeout, B", "B", "2"), list("B", "2"))
	// The empty name is no element, and a name with blanks at its ends neither.
	wantStrip(t, list("", "1", " A", "2", "A ", "3", "A", "4", "Connection", ", A ,"), list("", "1", " A", "2", "A ", "3"))
	// A name with a comma is none that can be told.
	wantStrip(t, list("A,B", "1", "A", "2", "Connection", "A,B"), list("A,B", "1"))
}

func TestStripKeepsOrder(t *testing.T) {
	wantStrip(t, list("Via", "b", "X", "1", "via", "a", "Connection", "x", "VIA", "c", "TE", "t", "Via", "a", "Host", "h", "via", "b"), list("Via", "b", "via", "a", "VIA", "c", "Via", "a", "Host", "h", "via", "b"))
}

// Lists of any length are stripped, also where each field is told.
func TestStripOfLongLists(t *testing.T) {
	const n = 60000
	var told strings.Builder
	for i := range n {
		told.WriteString(", n" + strconv.Itoa(2*i))
	}
	l := append(many(n), api.Field{Name: "connection", Value: told.String()})
	got := fields.Strip(l)
	if len(got) != n/2 {
		t.Fatalf("%d fields are left, want %d", len(got), n/2)
	}
	for i, f := range got {
		if f != l[2*i+1] {
			t.Fatalf("the field %d is %q", i, f)
		}
	}
}

// All calls, against those written in another way.

func TestOfAllShortLists(t *testing.T) {
	kinds := list("Connection", "a, TE", "connection", "Via", "A", "x, y", "a", "Y", "TE", "a", "Via", "", "via", "y,", "", "x")
	lists := [][]api.Field{{}}
	for from := 0; len(lists[from]) < 4; from++ {
		for _, kind := range kinds {
			lists = append(lists, append(slices.Clone(lists[from]), kind))
		}
	}
	for _, l := range lists {
		wantAll(t, l, "A", "y")
		wantAll(t, l, "VIA", "Y")
		wantAll(t, l, "", "x")
	}
}

func TestOfManyLists(t *testing.T) {
	d := dice.New(70)
	names := []string{"Connection", "CONNECTION", "connection", "X-A", "x-a", "Host", "host", "Via", "TE", "te", "Upgrade", "Keep-Alive", "Transfer-Encoding", "Trailer", "Proxy-Connection", "", "a b", " x", "x ", "\xff", "A,B"}
	pieces := []string{"close", ",", ",", ", ", " ", "\t", "x-a", "HOST", "Te", "Keep-alive", "a b", "\x80", "Via", "Connection", "\x00", "x"}
	text := func() string {
		var text strings.Builder
		for range d.Below(6) {
			text.WriteString(pieces[d.Below(len(pieces))])
		}
		return text.String()
	}
	for range 20000 {
		l := []api.Field{}
		for range d.Below(12) {
			l = append(l, api.Field{Name: names[d.Below(len(names))], Value: text()})
		}
		name := names[d.Below(len(names))]
		wantAll(t, l, name, pieces[d.Below(len(pieces))])
		wantAll(t, l, mixed(name), text())
	}
}

// P1: what is asked meanwhile changes no answer.
func TestAnswersAreTheSameAgain(t *testing.T) {
	l := list("Connection", "close, X-A", "x-a", "1", "Host", "h", "TE", "trailers")
	g := list("Connection", "Host", "X-A", "2", "host", "g, h")
	for range 50 {
		wantAll(t, l, "X-A", "close")
		wantAll(t, g, "host", "H")
		wantAll(t, nil, "", "")
	}
}

// Memory.

// roomy is a copy of a list with spare room that is filled, and all of that memory.
func roomy(l []api.Field) ([]api.Field, []api.Field) {
	memory := make([]api.Field, len(l)+40)
	for i := range memory {
		memory[i] = api.Field{Name: "spare", Value: strconv.Itoa(i)}
	}
	copy(memory, l)
	return memory[:len(l)], memory
}

// answers are all lists that the calls answer.
func answers(l []api.Field, name string) [][]api.Field {
	return [][]api.Field{fields.Remove(l, name), fields.Set(l, name, "v"), fields.Strip(l)}
}

// spoil writes over all that a list has, and fills its spare room.
func spoil(l []api.Field) {
	l = l[:cap(l)]
	for i := range l {
		l[i] = api.Field{Name: "spoilt", Value: "spoilt"}
	}
}

func memoryLists() [][]api.Field {
	return [][]api.Field{
		nil, {}, list("A", "1"), list("Host", "h", "A", "1"), list("TE", "t"), list("Connection", "A", "A", "1"), list("Connection", "close, X-A", "x-a", "1", "Host", "h", "TE", "trailers"), list("B", "2", "Connection", "x"), many(33), slices.Repeat(list("A", "1, 2", "TE", "x"), 9),
	}
}

func TestWhatIsHandedInStays(t *testing.T) {
	for _, kept := range memoryLists() {
		for _, name := range []string{"A", "host", "Connection", "nowhere", ""} {
			l, memory := roomy(kept)
			before := slices.Clone(memory)
			wantAll(t, l, name, "x")
			for range 3 {
				for _, answer := range answers(l, name) {
					spoil(answer)
					for range 50 {
						answer = append(answer, api.Field{Name: "grown", Value: "grown"})
					}
				}
				for i := range fields.Elements(l, name) {
					fields.Elements(l, name)[i] = "spoilt"
				}
			}
			if !slices.Equal(memory, before) {
				t.Errorf("a list was changed: %q, was %q", memory, before)
			}
		}
	}
}

func TestAnswersAreNewMemory(t *testing.T) {
	for _, kept := range memoryLists() {
		for _, name := range []string{"A", "host", "Connection", "nowhere", ""} {
			l, memory := roomy(kept)
			want := [][]api.Field{remove(l, name), set(l, name, "v"), strip(l)}
			wantTexts := elements(l, name)
			got, texts := answers(l, name), fields.Elements(l, name)
			for _, answer := range answers(l, name) {
				spoil(answer)
			}
			other := fields.Elements(l, name)
			other = other[:cap(other)]
			for i := range other {
				other[i] = "spoilt"
			}
			spoil(memory)
			for i := range got {
				if !slices.Equal(got[i], want[i]) {
					t.Errorf("the answer %d of %q and %q is %q by now, was %q", i, kept, name, got[i], want[i])
				}
				// What one answer's memory has is not the next one's.
				spoil(got[i])
			}
			if !slices.Equal(texts, wantTexts) {
				t.Errorf("the elements of %q in %q are %q by now, were %q", name, kept, texts, wantTexts)
			}
		}
	}
}
