package field_test

import (
	"regexp"
	"slices"
	"strconv"
	"strings"
	"testing"
	"unsafe"

	"mandoline/api"
	"mandoline/field"
)

const (
	tokenBytes = "abcdefghijklmnopqrstuvwxyzABCDEFGHIJKLMNOPQRSTUVWXYZ0123456789!#$%&'*+-.^_`|~"
	wholeBlock = 65536
)

// f is a field.
func f(name, value string) api.Field { return api.Field{Name: name, Value: value} }

// one is a text of one byte.
func one(c int) string { return string([]byte{byte(c)}) }

// like is the document's words on names, apart from the package: small letters in the place of A to Z.
func like(name string) string {
	var pairs []string
	for c := 'A'; c <= 'Z'; c++ {
		pairs = append(pairs, string(c), string(c-'A'+'a'))
	}
	return strings.NewReplacer(pairs...).Replace(name)
}

// names is texts that names may be held against, many of them alike, many nearly, and some that no right field has.
func names() []string {
	l := []string{
		"", "a", "A", "b", "aa", "aA", "Aa", "AA", "ab", "ETag", "etag", "ETAG", "eTAG", "Etag ", " etag", "etags", "eta", "Content-Range", "CONTENT-RANGE", "content-range", "content_range", "content range", "Content-Ranges",
		// letters whose other case lies beyond A to Z
		"k", "K", "\u212a", "s", "S", "\u017f", "\u00e4", "\u00c4", "\u00df", "ss", "i", "I", "\u0130", "\u0131",
		// bytes at the edges of A to Z and of a to z, and those that differ from another one just as letters do
		"@", "`", "[", "{", "\\", "|", "]", "}", "^", "~", "_", "\x7f", "z", "Z", "0", "\x10", "!", "\x01", "\r", "-", "\x00", " ",
		// bytes that are no runes
		"\xff", "\xfe", "\xe1", "\xc1", "\xe9", "\xc9", "a\xff", "A\xff", "\ufffd", "a\xe1", "a\xc1",
	}
	return append(l, tokenBytes, strings.ToUpper(tokenBytes), strings.Repeat("n", 300), strings.Repeat("N", 300))
}

// fields is a field of each of the names, twice, each with a value of its own.
func fields() []api.Field {
	var l []api.Field
	for i, name := range slices.Concat(names(), names()) {
		l = append(l, f(name, "v"+strconv.Itoa(i)))
	}
	return l
}

// P7.1: Get and Of

func TestGetAndOf(t *testing.T) {
	l := []api.Field{f("Range", "a"), f("ETag", "b"), f("RANGE", "c"), f("X", "")}
	for _, c := range []struct {
		name   string
		values []string
	}{
		{"range", []string{"a", "c"}}, {"Range", []string{"a", "c"}}, {"RANGE", []string{"a", "c"}}, {"rANGE", []string{"a", "c"}}, {"etag", []string{"b"}}, {"ETag", []string{"b"}},
		// a value may be empty: it is there all the same
		{"x", []string{""}}, {"X", []string{""}},
		{"", nil}, {"rang", nil}, {"ranges", nil}, {"range ", nil}, {" range", nil}, {"range:", nil}, {"b", nil}, {"e-tag", nil}, {"r\u00e4nge", nil},
	} {
		if got := field.Of(l, c.name); !slices.Equal(got, c.values) {
			t.Errorf("Of %q: %q", c.name, got)
		}
		got, ok := field.Get(l, c.name)
		if ok != (len(c.values) > 0) || ok && got != c.values[0] || !ok && got != "" {
			t.Errorf("Get %q: %q %v", c.name, got, ok)
		}
	}
	for _, none := range [][]api.Field{nil, {}} {
		for _, name := range []string{"", "a"} {
			if got, ok := field.Get(none, name); got != "" || ok || len(field.Of(none, name)) != 0 {
				t.Errorf("%q of none: %q %v", name, got, ok)
			}
		}
	}
	if got, ok := field.Get([]api.Field{f("", "v"), f("", "w")}, ""); got != "v" || !ok {
		t.Error("an empty name", got, ok)
	}
}

// P7.1: all four calls with each name against all, and that they leave the list as it is.
func TestNamesThatAreAlike(t *testing.T) {
	l := fields()
	for _, name := range names() {
		var values []string
		var without, with []api.Field
		for _, x := range l {
			if like(x.Name) != like(name) {
				without, with = append(without, x), append(with, x)
				continue
			}
			if len(values) == 0 {
				with = append(with, f(name, "new"))
			}
			values = append(values, x.Value)
		}
		if got, ok := field.Get(l, name); got != values[0] || !ok {
			t.Errorf("Get %q: %q %v", name, got, ok)
		}
		if got := field.Of(l, name); !slices.Equal(got, values) {
			t.Errorf("Of %q: %q", name, got)
		}
		if got := field.Set(l, name, "new"); !slices.Equal(got, with) {
			t.Errorf("Set %q: %q", name, got)
		}
		if got := field.Without(l, name); !slices.Equal(got, without) {
			t.Errorf("Without %q: %q", name, got)
		}
		if got := field.Set(without, name, "new"); !slices.Equal(got, append(without, f(name, "new"))) {
			t.Errorf("Set %q behind all: %q", name, got)
		}
		if got, ok := field.Get(without, name); got != "" || ok || len(field.Of(without, name)) != 0 || !slices.Equal(field.Without(without, name), without) {
			t.Errorf("%q, which isn't there: %q %v", name, got, ok)
		}
	}
	if !slices.Equal(l, fields()) {
		t.Error("the list was changed")
	}
}

func TestEachByteOfNames(t *testing.T) {
	for a := range 0x100 {
		for b := range 0x100 {
			want := like(one(a)) == like(one(b))
			for _, around := range [][2]string{{"", ""}, {"x", ""}, {"", "y"}, {"X", "-"}} {
				l := []api.Field{f(around[0]+one(a)+around[1], "v")}
				if _, ok := field.Get(l, around[0]+one(b)+around[1]); ok != want {
					t.Errorf("%q %q: %v", one(a), one(b), ok)
				}
			}
		}
	}
}

// P7.1: Set and Without

func TestSet(t *testing.T) {
	a, b, c := f("a", "1"), f("b", "2"), f("A", "3")
	for _, x := range []struct {
		l           []api.Field
		name, value string
		want        []api.Field
	}{
		{nil, "a", "x", []api.Field{f("a", "x")}}, {[]api.Field{}, "", "", []api.Field{{}}},
		{[]api.Field{a}, "a", "x", []api.Field{f("a", "x")}}, {[]api.Field{a}, "A", "x", []api.Field{f("A", "x")}}, {[]api.Field{a}, "b", "x", []api.Field{a, f("b", "x")}},
		{[]api.Field{a, b, c}, "a", "x", []api.Field{f("a", "x"), b}}, {[]api.Field{b, c, a, b}, "a", "x", []api.Field{b, f("a", "x"), b}}, {[]api.Field{b, b, b}, "B", "x", []api.Field{f("B", "x")}},
		{[]api.Field{a, c, a, c}, "A", "", []api.Field{f("A", "")}}, {[]api.Field{a, b, c}, "c", "3", []api.Field{a, b, c, f("c", "3")}},
		// whatever they are
		{[]api.Field{f("", "\n"), f("\xff", "\r\n"), f("", "")}, "", "\x00\xff", []api.Field{f("", "\x00\xff"), f("\xff", "\r\n")}}, {[]api.Field{f(" ", "")}, "a b", " ", []api.Field{f(" ", ""), f("a b", " ")}},
		{[]api.Field{a}, strings.Repeat("n", 1000), strings.Repeat("v", 100000), []api.Field{a, f(strings.Repeat("n", 1000), strings.Repeat("v", 100000))}},
	} {
		if got := field.Set(x.l, x.name, x.value); !slices.Equal(got, x.want) {
			t.Errorf("%q %.20q: %.200q", x.l, x.name, got)
		}
	}
}

func TestWithout(t *testing.T) {
	a, b, c := f("a", "1"), f("b", "2"), f("A", "3")
	for _, x := range []struct {
		l    []api.Field
		name string
		want []api.Field
	}{
		{nil, "a", nil}, {[]api.Field{}, "", nil}, {[]api.Field{a}, "a", nil}, {[]api.Field{a, c}, "A", nil}, {[]api.Field{a, b, c}, "a", []api.Field{b}}, {[]api.Field{a, b, c}, "B", []api.Field{a, c}},
		{[]api.Field{a, b, c}, "c", []api.Field{a, b, c}}, {[]api.Field{b, a, a, b, c, b}, "a", []api.Field{b, b, b}}, {[]api.Field{{}, a, {}}, "", []api.Field{a}}, {[]api.Field{f("\xff", ""), f("\xfe", "")}, "\xff", []api.Field{f("\xfe", "")}},
	} {
		if got := field.Without(x.l, x.name); !slices.Equal(got, x.want) {
			t.Errorf("%q %q: %q", x.l, x.name, got)
		}
	}
}

// Of many fields the calls answer as of few: only a block's are counted.
func TestManyFields(t *testing.T) {
	l := slices.Repeat([]api.Field{f("a", "1"), f("b", "2")}, 1000)
	if n := len(field.Of(l, "A")); n != 1000 {
		t.Error("Of", n)
	}
	if n := len(field.Set(l, "A", "x")); n != 1001 {
		t.Error("Set", n)
	}
	if n := len(field.Without(l, "A")); n != 1000 {
		t.Error("Without", n)
	}
}

// P7.1: Items

// items is what Items goes through.
func items(values ...string) []string { return slices.Collect(field.Items(values...)) }

func TestItems(t *testing.T) {
	for s, want := range map[string][]string{
		`a: 1, "b,\"c" ,, d`: {"a: 1", `"b,\"c"`, "d"}, `1, "b,\"c" ,, d`: {"1", `"b,\"c"`, "d"},
		"": nil, " ": nil, ",": nil, ", \t,,": nil, "a": {"a"}, "a,b": {"a", "b"}, ",a,": {"a"}, "a,,b": {"a", "b"}, "a,a": {"a", "a"},
		// blanks and tabs at both ends, not within, and nothing else
		" a ": {"a"}, "\ta\t,\t b \t": {"a", "b"}, "a b , c\td": {"a b", "c\td"}, "\na,b\r\n": {"\na", "b\r\n"}, "\u00a0a\v,\f": {"\u00a0a\v", "\f"}, "\x00": {"\x00"},
		// quoted texts
		`","`: {`","`}, `"a,b"`: {`"a,b"`}, `"a","b"`: {`"a"`, `"b"`}, `""`: {`""`}, `"",""`: {`""`, `""`}, `x"a,b"y,z`: {`x"a,b"y`, "z"}, `"a,b""c,d",e`: {`"a,b""c,d"`, "e"}, `" a "`: {`" a "`}, `a=" , ", b`: {`a=" , "`, "b"},
		// what \ belongs to
		`"\",",a`: {`"\","`, "a"}, `"\\",a`: {`"\\"`, "a"}, `"\\\",",a`: {`"\\\","`, "a"}, `"a\b,",c`: {`"a\b,"`, "c"}, `"\,",a`: {`"\,"`, "a"}, `"\\\\",a`: {`"\\\\"`, "a"}, `"\\,\",",a`: {`"\\,\","`, "a"},
		// out of a quoted text it is a byte as others are
		`\,a`: {`\`, "a"}, `\"a,b",c`: {`\"a,b"`, "c"}, `a\\,b`: {`a\\`, "b"}, `""\",",a`: {`""\","`, "a"}, `"a"\,b`: {`"a"\`, "b"},
		// quoted texts that only the value ends
		`"`: {`"`}, `"a,b`: {`"a,b`}, `a,"b,c`: {"a", `"b,c`}, `"\`: {`"\`}, `"\"`: {`"\"`}, `"\",a`: {`"\",a`}, `"a\",b,c\`: {`"a\",b,c\`}, `"a","`: {`"a"`, `"`}, `"a, ` + "\t": {`"a,`}, `"\\\"`: {`"\\\"`}, `", `: {`",`}, `" `: {`"`},
		// bytes that are no runes, and runes of several bytes
		"\xff,\xfe": {"\xff", "\xfe"}, "\u20ac,\"\u20ac,\"": {"\u20ac", "\"\u20ac,\""}, "\uff0c,a": {"\uff0c", "a"}, "\xac,\xe2": {"\xac", "\xe2"},
	} {
		if got := items(s); !slices.Equal(got, want) {
			t.Errorf("%q: %q", s, got)
		}
	}
}

func TestItemsOfSeveralValues(t *testing.T) {
	for _, c := range []struct{ values, want []string }{
		{nil, nil}, {[]string{}, nil}, {[]string{""}, nil}, {[]string{"", " ", ","}, nil}, {[]string{"a", "b"}, []string{"a", "b"}}, {[]string{"a,b", "", "c,", ",d"}, []string{"a", "b", "c", "d"}},
		// a value ends what is quoted, and what \ stands ahead of; the next one begins anew
		{[]string{`"x, y`, `z, "w`, `v"`, "u"}, []string{`"x, y`, "z", `"w`, `v"`, "u"}}, {[]string{`"a\`, `",b`, "c"}, []string{`"a\`, `",b`, "c"}}, {[]string{"a", "a", "a"}, []string{"a", "a", "a"}},
	} {
		if got := items(c.values...); !slices.Equal(got, c.want) {
			t.Errorf("%q: %q", c.values, got)
		}
	}
	many := slices.Repeat([]string{"a,b"}, 5000)
	if got := items(many...); !slices.Equal(got, slices.Repeat([]string{"a", "b"}, 5000)) {
		t.Error("of many", len(got))
	}
	if got := items(strings.Repeat(`"a,", ,`, 100000)); !slices.Equal(got, slices.Repeat([]string{`"a,"`}, 100000)) {
		t.Error("of a long one", len(got))
	}
}

// shorts is all texts of up to n of those bytes, the empty one too.
func shorts(bytes string, n int) []string {
	l, last := []string{""}, []string{""}
	for range n {
		var longer []string
		for _, s := range last {
			for _, c := range bytes {
				longer = append(longer, s+string(c))
			}
		}
		l, last = append(l, longer...), longer
	}
	return l
}

// The document's words on items, as a pattern, hold of all short values of the bytes that matter.
func TestItemsOfShortValues(t *testing.T) {
	between := regexp.MustCompile(`^(?:[^",]|"(?:[^"\\]|\\.)*(?:"|\\?$))*`)
	for _, s := range shorts("a\",\\ \t", 7) {
		var want []string
		for rest, more := s, true; more; {
			item := between.FindString(rest)
			if x := strings.Trim(item, " \t"); x != "" {
				want = append(want, x)
			}
			rest, more = strings.CutPrefix(rest[len(item):], ",")
		}
		if got := items(s); !slices.Equal(got, want) {
			t.Fatalf("%q: %q, not %q", s, got, want)
		}
	}
}

func TestItemsAreGoneThrough(t *testing.T) {
	values := []string{"a,b", "c"}
	seq := field.Items(values...)
	values[0], values[1] = "x", "y"
	for n := range 4 {
		var got []string
		for s := range seq {
			got = append(got, s)
			if len(got) == n {
				break
			}
		}
		want := []string{"a", "b", "c"}
		if n > 0 {
			want = want[:n]
		}
		if !slices.Equal(got, want) {
			t.Errorf("up to %d: %q", n, got)
		}
	}
	for range field.Items() {
		t.Error("an item of no values")
	}
}

// P7.1: Right

func TestRight(t *testing.T) {
	for _, x := range []api.Field{
		f("a", ""), f("a", "b"), f("Content-Range", "bytes 0-3/10"), f(tokenBytes, "v"), f("0", "0"), f("!", "!"), f("a", "a b"), f("a", "a\tb"), f("a", "a \t b"), f("a", ":"), f("a", ","), f("a", "\"\\"), f("a", "~"), f("a", "!~"),
		f(strings.Repeat("n", 200), ""), f("a", strings.Repeat("v", 8192)), f(strings.Repeat("n", 199), strings.Repeat("v", 8191)), f(strings.Repeat("~", 200), "x"+strings.Repeat(" ", 8190)+"y"),
	} {
		if !field.Right(x) {
			t.Errorf("%.40q", x)
		}
	}
	for _, x := range wrong() {
		if field.Right(x) {
			t.Errorf("%.40q", x)
		}
	}
}

// wrong is fields that aren't right.
func wrong() []api.Field {
	l := []api.Field{
		{}, f("", "b"), f(strings.Repeat("n", 201), ""), f(strings.Repeat("n", 1000), "v"), f("a", strings.Repeat("v", 8193)), f("a", strings.Repeat("v", 100000)), f(strings.Repeat("n", 201), strings.Repeat("v", 8193)), f("", strings.Repeat("v", 8193)),
		f("a b", ""), f(" a", ""), f("a ", ""), f("a:", ""), f("\u00e9", "v"), f("a", "\u00e9"), f("a\u00e9", "v"), f("a", "b\u00e9c"), f("a,b", "v"), f("\"a\"", "v"), f("a/b", "v"), f("(a)", "v"), f("a", "b\u2028c"), f("\uff41", "v"),
		f("a", " "), f("a", "\t"), f("a", " b"), f("a", "b "), f("a", "\tb"), f("a", "b\t"), f("a", " b "), f("a", "  "), f("a", "b\nc"), f("a", "b\r\nc"), f("a", "\r"), f("a", "b\x00"), f("a", strings.Repeat(" ", 100)),
	}
	for c := range 0x100 {
		if !strings.Contains(tokenBytes, one(c)) {
			l = append(l, f(one(c), "v"), f("a"+one(c), "v"), f(one(c)+"a", "v"), f("a"+one(c)+"b", "v"))
		}
		if (c < 0x20 || c > 0x7E) && c != '\t' {
			l = append(l, f("a", one(c)), f("a", "v"+one(c)), f("a", one(c)+"v"), f("a", "v"+one(c)+"w"))
		}
	}
	return l
}

func TestRightOfEachByte(t *testing.T) {
	for c := range 0x100 {
		token := strings.Contains(tokenBytes, one(c))
		for _, name := range []string{one(c), "a" + one(c), one(c) + "a", "a" + one(c) + "b", strings.Repeat("n", 199) + one(c)} {
			if field.Right(f(name, "v")) != token {
				t.Errorf("the name %q", name)
			}
		}
		within := c == 9 || 0x20 <= c && c <= 0x7E
		for _, value := range []string{"v" + one(c) + "w", strings.Repeat("v", 8190) + one(c) + "w"} {
			if field.Right(f("a", value)) != within {
				t.Errorf("the value %.20q", value)
			}
		}
		ends := 0x21 <= c && c <= 0x7E
		for _, value := range []string{one(c), "v" + one(c), one(c) + "v", strings.Repeat("v", 8191) + one(c)} {
			if field.Right(f("a", value)) != ends {
				t.Errorf("the value %.20q", value)
			}
		}
	}
}

func TestRightOfEachLength(t *testing.T) {
	for n := range 400 {
		if got := field.Right(f(strings.Repeat("n", n), "v")); got != (n >= 1 && n <= 200) {
			t.Error("a name", n, got)
		}
	}
	for n := 8000; n < 8400; n++ {
		if got := field.Right(f("a", strings.Repeat("v", n))); got != (n <= 8192) {
			t.Error("a value", n, got)
		}
	}
}

// P7.1: Put

// spelled is the document's words on blocks, apart from the package.
func spelled(l []api.Field) string {
	s := ""
	for _, x := range l {
		s += x.Name + ": " + x.Value + "\r\n"
	}
	return s + "\r\n"
}

// block is fields that are right, whose block has so many bytes: 10 at the least.
func block(bytes int) []api.Field {
	var l []api.Field
	bytes -= len("\r\n")
	for bytes > 8197 {
		// A field takes 6 bytes and more; what is left is kept at 20 at the least.
		n := min(8197, bytes-20)
		l, bytes = append(l, f("a", strings.Repeat("v", n-5))), bytes-n
	}
	return append(l, f("Last", strings.Repeat("w", bytes-8)))
}

// right is lists of right fields whose blocks may be.
func right() [][]api.Field {
	return [][]api.Field{
		nil, {}, {f("a", "")}, {f("a", "b")}, {f("a", ""), f("a", "")}, {f("Range", "a"), f("ETag", "b"), f("RANGE", "c")}, {f("a", "b:c"), f("x", ": y"), f("y", ":")}, {f("a", "b, \"c\\\"\""), f("b", "a\t b")}, {f(tokenBytes, "~")},
		{f(strings.Repeat("n", 200), strings.Repeat("v", 8192))}, slices.Repeat([]api.Field{f("a", "b")}, 99), slices.Repeat([]api.Field{f("a", "b")}, 100), slices.Repeat([]api.Field{f("ab", "")}, 100),
		block(10), block(11), block(8199), block(8200), block(8500), block(65533), block(65534), block(65535), block(wholeBlock),
	}
}

func TestPut(t *testing.T) {
	for _, l := range right() {
		if got, e := field.Put(l); got != spelled(l) || e != api.OK {
			t.Errorf("%.80q: %.80q %v", l, got, e)
		}
	}
	if n := len(spelled(block(wholeBlock))); n != wholeBlock {
		t.Error("the greatest block has", n)
	}
}

func refusedPut(t *testing.T, l []api.Field, want api.Errno) {
	t.Helper()
	if got, e := field.Put(l); got != "" || e != want {
		t.Errorf("%d fields, %.80q: %.80q %v", len(l), l, got, e)
	}
}

func TestPutRefuses(t *testing.T) {
	a := f("a", "b")
	for _, x := range wrong() {
		for _, l := range [][]api.Field{{x}, {a, x}, {x, a}, {a, x, a}, {x, x}} {
			refusedPut(t, l, api.ErrForm)
		}
	}
	for _, n := range []int{101, 102, 200, 1000, 100000} {
		refusedPut(t, slices.Repeat([]api.Field{a}, n), api.ErrMany)
	}
	for _, n := range []int{wholeBlock + 1, wholeBlock + 2, wholeBlock + 3, wholeBlock + 100, 100000, 800000} {
		refusedPut(t, block(n), api.ErrMany)
	}
	// one that isn't right goes ahead of too many, wherever it stands
	for _, l := range [][]api.Field{slices.Repeat([]api.Field{a}, 101), slices.Repeat([]api.Field{a}, 1000), block(wholeBlock + 1), block(800000)} {
		for _, x := range []api.Field{{}, f("a", " b"), f("a b", "")} {
			for _, at := range []int{0, 1, len(l) / 2, len(l)} {
				refusedPut(t, slices.Insert(slices.Clone(l), at, x), api.ErrForm)
			}
		}
	}
}

// P7.1: Parse

func TestParse(t *testing.T) {
	for s, want := range map[string][]api.Field{
		"\r\n": nil, "a: b\r\n\r\n": {f("a", "b")}, "a:b\r\n\r\n": {f("a", "b")}, "a:\r\n\r\n": {f("a", "")}, "a: \r\n\r\n": {f("a", "")}, "a: \t \t\r\n\r\n": {f("a", "")},
		"a:b \t\r\n\r\n": {f("a", "b")}, "a:\t b\t \r\n\r\n": {f("a", "b")}, "a: b c\td\r\n\r\n": {f("a", "b c\td")}, "A: b\r\na: c\r\nB:\r\n\r\n": {f("A", "b"), f("a", "c"), f("B", "")},
		"a::\r\n\r\n": {f("a", ":")}, "a: :b:c\r\n\r\n": {f("a", ":b:c")}, tokenBytes + ":~\r\n\r\n": {f(tokenBytes, "~")},
		// blanks at the ends of a value aren't counted
		"a: " + strings.Repeat(" \t", 10000) + strings.Repeat("v", 8192) + strings.Repeat("\t ", 10000) + "\r\n\r\n": {f("a", strings.Repeat("v", 8192))},
		strings.Repeat("n", 200) + ":" + "\r\n\r\n": {f(strings.Repeat("n", 200), "")},
	} {
		for _, behind := range behind() {
			if l, n, e := field.Parse(s + behind); !slices.Equal(l, want) || n != len(s) || e != api.OK {
				t.Errorf("%.80q: %.80q %d %v", s, l, n, e)
			}
		}
	}
}

// behind is what may stand behind a block, whatever it is.
func behind() []string {
	return []string{"", "body", "\r", "\n", "\r\n", "\r\n\r\n", "a: b\r\n\r\n", "a", " ", "\x00\xff", " : \r\n", strings.Repeat("a: b\r\n", 200), strings.Repeat("x", 100000)}
}

func refusedParse(t *testing.T, s string, want api.Errno) {
	t.Helper()
	if l, n, e := field.Parse(s); len(l) != 0 || n != 0 || e != want {
		t.Errorf("%d bytes, %.80q: %.80q %d %v", len(s), s, l, n, e)
	}
}

func TestParseRefuses(t *testing.T) {
	for _, line := range []string{
		// no colon, no name, or a blank about it
		"a", "ab", "a b", " ", "\t", ":", ": b", ":b", " : b", "a : b", "a\t: b", " a: b", "\ta: b", " b", "a b: c", "\"a\": b", "a,b: c", "a;b", "a=b", "a\uff1ab", "\u00e4: b", "\x00: b", "\xff: b", "a\x7f: b",
		// ends of lines that are none
		"a: b\n", "a: b\r", "\n", "\r", "a: b\nc: d", "a: b\rc: d", "\ra: b", "\na: b", "a\n: b", "a:\nb", "a: b\n\r", "\r\r", "\n\n",
		// a value of other bytes
		"a: \x00", "a: b\x00c", "a: \x1f", "a: \x7f", "a: \u00e4", "a: \u00a0b", "a: b\v", "a: \f", "a: \xff",
		// too long
		strings.Repeat("n", 201) + ": b", "a: " + strings.Repeat("v", 8193), "a: b" + strings.Repeat(" ", 8191) + "c", strings.Repeat("n", 201) + ":", strings.Repeat("x", 60000),
	} {
		for _, rest := range []string{"\r\n\r\n", "\r\n", "\r\nx", "\r\na: b\r\n\r\n", "\r\n" + strings.Repeat("x", 70000), "\r\n" + strings.Repeat("a: b\r\n", 200), "\r\n\r\nbody"} {
			for _, ahead := range []string{"", "a: b\r\n", "a:\r\nb:\r\n", strings.Repeat("a:b\r\n", 99)} {
				refusedParse(t, ahead+line+rest, api.ErrForm)
			}
		}
		if len(line) > 100 {
			continue
		}
		// A last line that hasn't ended isn't looked at: more of it may come.
		for _, ahead := range []string{"", "a: b\r\n", strings.Repeat("a:b\r\n", 100), strings.Repeat("a:b\r\n", 99)} {
			refusedParse(t, ahead+strings.TrimSuffix(line, "\r"), api.ErrMore)
			refusedParse(t, ahead+strings.TrimSuffix(line, "\r")+"\r", api.ErrMore)
		}
	}
}

// P7.1: the document's words on lines, by pieces of the text, hold of all short texts of the bytes that matter.
func TestParseOfShortTexts(t *testing.T) {
	line := regexp.MustCompile("^a+:[ \t]*(|[a:]|[a:][a: \t]*[a:])[ \t]*$")
	for _, s := range shorts("a: \t\r\n", 7) {
		pieces := strings.Split(s, "\r\n")
		want, n, fault := []api.Field(nil), 0, api.ErrMore
		for _, piece := range pieces[:len(pieces)-1] {
			n += len(piece) + 2
			found := line.FindStringSubmatch(piece)
			if piece == "" {
				fault = api.OK
				break
			}
			if found == nil {
				fault = api.ErrForm
				break
			}
			want = append(want, f(piece[:strings.IndexByte(piece, ':')], found[1]))
		}
		if fault != api.OK {
			want, n = nil, 0
		}
		if l, got, e := field.Parse(s); !slices.Equal(l, want) || got != n || e != fault {
			t.Fatalf("%q: %q %d %v", s, l, got, e)
		}
	}
}

// P7.1: too many fields

func TestParseOfManyFields(t *testing.T) {
	hundred := strings.Repeat("a: b\r\n", 100)
	for _, n := range []int{1, 2, 98, 99, 100} {
		s := strings.Repeat("a: b\r\n", n) + "\r\n"
		if l, got, e := field.Parse(s + "body"); !slices.Equal(l, slices.Repeat([]api.Field{f("a", "b")}, n)) || got != len(s) || e != api.OK {
			t.Error(n, len(l), got, e)
		}
	}
	for _, n := range []int{101, 102, 1000, 20000} {
		refusedParse(t, strings.Repeat("a: b\r\n", n)+"\r\n", api.ErrMany)
		refusedParse(t, strings.Repeat("a: b\r\n", n), api.ErrMany)
	}
	// a line behind 100 of them is too many whatever it is, but not till it has ended
	for _, line := range []string{"x", " ", ":", "a : b", "a: \x00", "\n"} {
		refusedParse(t, hundred+line+"\r\n\r\n", api.ErrMany)
		refusedParse(t, hundred+line+"\r\n", api.ErrMany)
		refusedParse(t, hundred+line, api.ErrMore)
		refusedParse(t, hundred+line+"\r", api.ErrMore)
	}
	refusedParse(t, hundred, api.ErrMore)
	refusedParse(t, hundred+"\r", api.ErrMore)
	// what is found first is told: a line that is none, ahead of too many
	refusedParse(t, "x\r\n"+hundred+hundred, api.ErrForm)
	refusedParse(t, hundred[6:]+"x\r\n"+hundred, api.ErrForm)
}

// P7.1: too many bytes

func TestParseOfManyBytes(t *testing.T) {
	// no line's end
	for _, n := range []int{1, 8192, 65535, wholeBlock} {
		refusedParse(t, strings.Repeat("a", n), api.ErrMore)
		refusedParse(t, "a: b\r\n"+strings.Repeat("a", max(n-6, 0)), api.ErrMore)
		refusedParse(t, strings.Repeat("\r", n), api.ErrMore)
		refusedParse(t, strings.Repeat("\n", n), api.ErrMore)
		refusedParse(t, strings.Repeat("a", n-1)+"\r", api.ErrMore)
	}
	for _, n := range []int{wholeBlock + 1, wholeBlock + 2, 100000} {
		refusedParse(t, strings.Repeat("a", n), api.ErrMany)
		refusedParse(t, "a: b\r\n"+strings.Repeat("a", n-6), api.ErrMany)
		refusedParse(t, strings.Repeat("\r", n), api.ErrMany)
		refusedParse(t, strings.Repeat("a", n-1)+"\r", api.ErrMany)
		// one of them was wrong ahead of that
		refusedParse(t, "x\r\n"+strings.Repeat("a", n), api.ErrForm)
	}
	// a line's end ahead of that edge, on it and behind it
	for n := wholeBlock - 5; n <= wholeBlock+5; n++ {
		want := api.ErrForm
		if n > wholeBlock {
			want = api.ErrMany
		}
		refusedParse(t, strings.Repeat("a", n-2)+"\r\n", want)
		refusedParse(t, strings.Repeat("a", n-2)+"\r\n\r\n", want)
		refusedParse(t, strings.Repeat("a", n-2)+"\r\n"+strings.Repeat("a", 100000), want)
	}
}

func TestParseOfTheGreatestBlocks(t *testing.T) {
	for n := wholeBlock - 5; n <= wholeBlock+5; n++ {
		want := block(n)
		s := spelled(want)
		if n > wholeBlock {
			// by 1 or 2 bytes only the empty line ends too late; by more the line ahead does
			refusedParse(t, s, api.ErrMany)
			refusedParse(t, s+"body", api.ErrMany)
			continue
		}
		for _, behind := range behind() {
			if l, got, e := field.Parse(s + behind); !slices.Equal(l, want) || got != n || e != api.OK {
				t.Error(n, len(l), got, e)
			}
		}
	}
	// as many fields and as many bytes as may be
	most := slices.Concat(slices.Repeat([]api.Field{f("a", "b")}, 92), block(wholeBlock-92*6))
	if len(most) != 100 {
		t.Fatal(len(most))
	}
	if l, n, e := field.Parse(spelled(most)); !slices.Equal(l, most) || n != wholeBlock || e != api.OK {
		t.Error(len(l), n, e)
	}
}

// P7.2

func TestWhatIsPutIsParsed(t *testing.T) {
	for _, want := range right() {
		s, _ := field.Put(want)
		for _, behind := range behind() {
			if l, n, e := field.Parse(s + behind); !slices.Equal(l, want) || n != len(s) || e != api.OK {
				t.Errorf("%.80q: %.80q %d %v", want, l, n, e)
			}
		}
		for cut := 0; cut < len(s); cut++ {
			// Of what is long, some places within and all at the end.
			if cut > 1000 && cut < len(s)-20 {
				cut = min(cut+97, len(s)-20)
			}
			refusedParse(t, s[:cut], api.ErrMore)
		}
	}
}

// What is parsed is put again as a block that is parsed as the same.
func TestWhatIsParsedIsPut(t *testing.T) {
	parsed := 0
	for _, s := range shorts("a: \r\n", 8) {
		l, n, e := field.Parse(s)
		if e != api.OK {
			continue
		}
		parsed++
		told, e := field.Put(l)
		if again, _, fault := field.Parse(told); e != api.OK || fault != api.OK || !slices.Equal(again, l) || told != spelled(l) {
			t.Errorf("%q, of which %d: %q", s, n, told)
		}
	}
	if parsed < 100 {
		t.Error("few are blocks:", parsed)
	}
}

// holds is whether a text's memory lies in another one's.
func holds(whole, text string) bool {
	at, begin := uptr(text), uptr(whole)
	return len(text) > 0 && begin <= at && at < begin+uintptr(len(whole))
}

// uptr is where a text's memory begins.
func uptr(s string) uintptr { return uintptr(unsafe.Pointer(unsafe.StringData(s))) }

// What is answered shares no memory with an argument.
func TestAnswersShareNothing(t *testing.T) {
	s := "first: one, \"two\"\r\nsecond: three\r\n\r\n"
	l, _, _ := field.Parse(s)
	name, value := strings.Clone("second"), strings.Clone("four")
	arguments := []string{s, name, value, l[0].Name, l[0].Value, l[1].Name, l[1].Value}
	got, _ := field.Get(l, "first")
	answers := append(field.Of(l, "second"), got)
	for x := range field.Items(l[0].Value) {
		answers = append(answers, x)
	}
	for _, x := range slices.Concat(field.Set(l, name, value), field.Set(l[:1], name, value), field.Without(l, "none")) {
		answers = append(answers, x.Name, x.Value)
	}
	told, _ := field.Put(l)
	answers = append(answers, told)
	for _, x := range answers {
		for _, argument := range arguments {
			if holds(argument, x) {
				t.Errorf("%q lies in %q", x, argument)
			}
		}
	}
	for _, x := range arguments[3:] {
		if holds(s, x) {
			t.Errorf("%q lies in the block", x)
		}
	}
}

// A list that is handed in keeps what it has, behind its end too, and what is answered may be changed.
func TestListsAreLeftAlone(t *testing.T) {
	all := []api.Field{f("a", "1"), f("b", "2"), f("A", "3"), f("c", "4"), f("d", "5")}
	given := slices.Clone(all)
	for n := range len(all) + 1 {
		l := all[:n]
		for _, name := range []string{"a", "b", "c", "x"} {
			for _, got := range [][]api.Field{field.Set(l, name, "new"), field.Without(l, name)} {
				for i := range got {
					got[i] = f("other", "other")
				}
				_ = append(got, f("more", "more"))
			}
			values := field.Of(l, name)
			for i := range values {
				values[i] = "other"
			}
			if !slices.Equal(all, given) {
				t.Fatalf("%d %q: %q", n, name, all)
			}
		}
	}
	s := spelled(given)
	first, _, _ := field.Parse(s)
	again, _, _ := field.Parse(s)
	first[0] = api.Field{}
	if !slices.Equal(again, given) {
		t.Errorf("%q", again)
	}
}
