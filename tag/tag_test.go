package tag_test

import (
	"slices"
	"strconv"
	"strings"
	"testing"
	"unsafe"

	"mandoline/api"
	"mandoline/tag"
)

// strong and weak are tags of a text.
func strong(text string) api.Tag { return api.Tag{Text: text} }
func weak(text string) api.Tag   { return api.Tag{Text: text, Weak: true} }

// all is every byte that a Text may have, each once.
func all() string {
	var b strings.Builder
	for c := 0x21; c <= 0x7E; c++ {
		if c != 0x22 {
			b.WriteByte(byte(c))
		}
	}
	return b.String()
}

// right is texts of right tags, up to the edges, and those that look like a part of a spelling, or of a list.
func right() []string {
	return []string{
		"a", "v1", "!", "#", "~", "*", ",", ",,", "a,b", ",a", "a,", "W/", "W/a", "w/", "W", "/", "\\", "a\\", "'", "[]", "0",
		"33a64df551425fcc55e4d42a148795d9f25f89d4", all(), strings.Repeat("x", 99), strings.Repeat("x", 100), strings.Repeat(",", 100), strings.Repeat("~", 100),
	}
}

// wrong is texts that no right tag has: too short, too long, or with a byte that may not stand there.
func wrong() []string {
	l := []string{
		"", strings.Repeat("x", 101), strings.Repeat("x", 102), strings.Repeat("x", 1000), all() + "1234567890",
		"\"", "a\"", "\"a", "a\"b", "\"\"", "\"a\"", "W/\"a\"", " ", "a b", " a", "a ", "\t", "a\tb", "\na", "a\r\n", "a\x00", "\x1f", "\x7f", "a\x7fb", "\x80", "\xff", "a\xe4", "\u00e4", "\u20ac", "v\u00a0", "\u2028",
	}
	for c := range 0x100 {
		if !strings.Contains(all(), string([]byte{byte(c)})) {
			l = append(l, string([]byte{byte(c)}), string([]byte{'a', byte(c)}), string([]byte{byte(c), 'a'}), string([]byte{'a', byte(c), 'b'}))
		}
	}
	return l
}

// tags is so many right tags, each another one.
func tags(n int) []api.Tag {
	var l []api.Tag
	for i := range n {
		l = append(l, api.Tag{Text: strings.Repeat(",", i%90) + "v" + strconv.Itoa(i), Weak: i%3 == 0})
	}
	return l
}

// around is blanks as they may stand at either end.
func around() []string {
	return []string{"", " ", "\t", "  ", " \t", "\t ", "\t\t", " \t \t ", strings.Repeat(" \t", 1000)}
}

// spelled is the document's words, apart from the package.
func spelled(t api.Tag) string {
	s := "\"" + t.Text + "\""
	if t.Weak {
		s = "W/" + s
	}
	return s
}

// P5.1: Right

func TestRight(t *testing.T) {
	for _, text := range right() {
		if !tag.Right(strong(text)) || !tag.Right(weak(text)) {
			t.Errorf("%q", text)
		}
	}
	for _, text := range wrong() {
		if tag.Right(strong(text)) || tag.Right(weak(text)) {
			t.Errorf("%q", text)
		}
	}
	if tag.Right(api.Tag{}) || tag.Right(api.Tag{Weak: true}) {
		t.Error("the zero tag")
	}
}

func TestRightOfEachByte(t *testing.T) {
	for c := range 0x100 {
		want := c == 0x21 || c >= 0x23 && c <= 0x7E
		for _, text := range []string{string([]byte{byte(c)}), string([]byte{'a', byte(c)}), string([]byte{byte(c), 'a'}), strings.Repeat("x", 99) + string([]byte{byte(c)})} {
			if tag.Right(strong(text)) != want || tag.Right(weak(text)) != want {
				t.Errorf("%q", text)
			}
		}
	}
}

func TestRightOfEachLength(t *testing.T) {
	for n := range 300 {
		if got := tag.Right(strong(strings.Repeat("x", n))); got != (n >= 1 && n <= 100) {
			t.Error(n, got)
		}
	}
}

// P5.1: Parse

func TestParse(t *testing.T) {
	for s, want := range map[string]api.Tag{
		`"v1"`: strong("v1"), `W/"v1"`: weak("v1"), `"a"`: strong("a"), `W/"a"`: weak("a"),
		`"W/"`: strong("W/"), `W/"W/"`: weak("W/"), `"W/a"`: strong("W/a"), `"*"`: strong("*"), `"a,b"`: strong("a,b"), `W/","`: weak(","), `"\"`: strong(`\`),
		` "v1"`: strong("v1"), `"v1" `: strong("v1"), "\t\"v1\"\t": strong("v1"), " \t W/\"v1\" \t ": weak("v1"),
	} {
		if got, e := tag.Parse(s); got != want || e != api.OK {
			t.Errorf("%q: %v %v", s, got, e)
		}
	}
	for _, text := range right() {
		for _, want := range []api.Tag{strong(text), weak(text)} {
			for _, ahead := range around() {
				for _, behind := range around() {
					if got, e := tag.Parse(ahead + spelled(want) + behind); got != want || e != api.OK {
						t.Errorf("%q: %v %v", spelled(want), got, e)
					}
				}
			}
		}
	}
}

// noTag is what is no tag's spelling, whatever blanks stand about it; none of it has a comma.
func noTag() []string {
	return []string{
		"v1", "W/v1", "W/", "W", "/", "*", "\"", "\"\"\"", "\"\"", "W/\"\"", "W/\"", "'v1'", "0", "none",
		// a quote is missing, or there are too many
		"\"v1", "v1\"", "W/\"v1", "W/v1\"", "\"v1\"\"", "\"\"v1\"", "\"v1\"v2\"", "\"v1\"\"v2\"", "\"v1\" \"v2\"", "\"v1\"W/\"v2\"", "\"v1\"x", "x\"v1\"", "\"v1\\\"\"", "\"v1'", "'v1\"", "\u201cv1\u201d", "`v1`",
		// W/ in another shape
		"w/\"v1\"", "W\"v1\"", "/\"v1\"", "W\\\"v1\"", "W/W/\"v1\"", "W//\"v1\"", "W/ \"v1\"", "W /\"v1\"", "W/\t\"v1\"", "\"W/\"v1\"", "\"v1\"W/", "w/\"\"", "S/\"v1\"", "\uff37/\"v1\"", "W\u2215\"v1\"",
		// other blanks than the two, at the ends
		"\n\"v1\"", "\"v1\"\n", "\r\n\"v1\"", "\"v1\"\r\n", "\v\"v1\"", "\"v1\"\f", "\u00a0\"v1\"", "\"v1\"\u0085", "\x00\"v1\"", "\"v1\"\x00", "\ufeff\"v1\"", "\u2003\"v1\"",
		// blanks within the quotes
		"\"v1 \"", "\" v1\"", "\"v 1\"", "\"\tv1\"", "\" \"", "W/\" v1\"",
		// too long
		"\"" + strings.Repeat("x", 101) + "\"", "W/\"" + strings.Repeat("x", 101) + "\"", "\"" + strings.Repeat("x", 100000) + "\"",
	}
}

func refused(t *testing.T, s string) {
	t.Helper()
	if got, e := tag.Parse(s); got != (api.Tag{}) || e != api.ErrForm {
		t.Errorf("%.60q: %v %v", s, got, e)
	}
}

func TestParseRefuses(t *testing.T) {
	for _, ahead := range around() {
		for _, behind := range around() {
			refused(t, ahead+behind)
			for _, s := range noTag() {
				refused(t, ahead+s+behind)
			}
		}
	}
	for _, text := range wrong() {
		refused(t, spelled(strong(text)))
		refused(t, spelled(weak(text)))
	}
	for _, s := range []string{",", "\"a\",", ",\"a\"", "\"a\",\"b\"", "\"a\", W/\"b\"", "*,", "\"a\",*"} {
		refused(t, s)
	}
}

// shorts is all texts of up to n of those bytes, the empty one too.
func shorts(bytes string, n int) []string {
	l, last := []string{""}, []string{""}
	for range n {
		var longer []string
		for _, s := range last {
			for _, c := range bytes {
				longer = append(longer, s+string(c))
			}
		}
		l, last = append(l, longer...), longer
	}
	return l
}

// What is read is a spelling, but for blanks, and nothing else: of all short texts of the bytes that matter.
func TestParseOfShortTexts(t *testing.T) {
	spellings := map[string]api.Tag{}
	for _, text := range shorts("W/a,*", 4)[1:] {
		spellings[spelled(strong(text))] = strong(text)
		spellings[spelled(weak(text))] = weak(text)
	}
	for _, s := range shorts("W/\"a, *", 6) {
		want, found := spellings[strings.Trim(s, " ")]
		if !found {
			refused(t, s)
		} else if got, e := tag.Parse(s); got != want || e != api.OK {
			t.Errorf("%q: %v %v", s, got, e)
		}
	}
}

// P5.2: Text

func TestText(t *testing.T) {
	for _, text := range right() {
		if got := tag.Text(strong(text)); got != "\""+text+"\"" {
			t.Errorf("%q: %q", text, got)
		}
		if got := tag.Text(weak(text)); got != "W/\""+text+"\"" {
			t.Errorf("%q: %q", text, got)
		}
	}
	for _, text := range wrong() {
		if a, b := tag.Text(strong(text)), tag.Text(weak(text)); a != "" || b != "" {
			t.Errorf("%q: %q %q", text, a, b)
		}
	}
}

// P5.2: Texts

func TestTexts(t *testing.T) {
	for _, c := range []struct {
		l    []api.Tag
		any  bool
		want string
	}{
		{nil, false, ""}, {[]api.Tag{}, false, ""}, {nil, true, "*"}, {[]api.Tag{}, true, "*"},
		{[]api.Tag{strong("a")}, false, `"a"`}, {[]api.Tag{weak("a")}, false, `W/"a"`},
		{[]api.Tag{strong("a,b"), weak("c")}, false, `"a,b", W/"c"`},
		{[]api.Tag{weak("c"), strong("a"), strong("a"), weak("c")}, false, `W/"c", "a", "a", W/"c"`},
		{[]api.Tag{strong("*")}, false, `"*"`},
		// any goes ahead of what is in the list
		{[]api.Tag{strong("a"), weak("c")}, true, "*"}, {[]api.Tag{{}}, true, "*"}, {[]api.Tag{strong("a b")}, true, "*"},
		// one that isn't right, wherever it stands
		{[]api.Tag{{}}, false, ""}, {[]api.Tag{{Weak: true}}, false, ""}, {[]api.Tag{strong("a"), {}}, false, ""}, {[]api.Tag{{}, strong("a")}, false, ""}, {[]api.Tag{strong("a"), strong("a b"), weak("c")}, false, ""},
	} {
		given := slices.Clone(c.l)
		if got := tag.Texts(c.l, c.any); got != c.want || !slices.Equal(c.l, given) {
			t.Errorf("%v %v: %q", c.l, c.any, got)
		}
	}
	for _, text := range wrong() {
		for _, x := range []api.Tag{strong(text), weak(text)} {
			for i := range 4 {
				if got := tag.Texts(slices.Insert(tags(3), i, x), false); got != "" {
					t.Errorf("%q: %q", text, got)
				}
			}
		}
	}
}

// Of how many a text is told isn't bounded: only what is read is.
func TestTextsOfMany(t *testing.T) {
	for _, n := range []int{1, 2, 63, 64, 65, 66, 1000} {
		var want []string
		for _, x := range tags(n) {
			want = append(want, spelled(x))
		}
		if got := tag.Texts(tags(n), false); got != strings.Join(want, ", ") {
			t.Error(n, got)
		}
	}
}

// P5.3

func TestList(t *testing.T) {
	for s, want := range map[string][]api.Tag{
		`"a"`: {strong("a")}, `W/"a"`: {weak("a")}, `"a,b", W/"c"`: {strong("a,b"), weak("c")},
		`"a","b"`: {strong("a"), strong("b")}, `W/"b","a","b"`: {weak("b"), strong("a"), strong("b")}, `"a", "a"`: {strong("a"), strong("a")},
		// blanks at the ends, and about commas
		` "a"`: {strong("a")}, "\"a\"\t": {strong("a")}, "\"a\" ,\"b\"": {strong("a"), strong("b")}, "\"a\",\t\"b\"": {strong("a"), strong("b")}, " \t\"a\"\t , \tW/\"b\" \t": {strong("a"), weak("b")},
		// empty parts
		`,"a"`: {strong("a")}, `"a",`: {strong("a")}, `,,,"a",,,`: {strong("a")}, `"a",,"b"`: {strong("a"), strong("b")}, " , \"a\" , \t, ,\"b\",\t": {strong("a"), strong("b")},
		// commas and stars within quotes
		`","`: {strong(",")}, `",,"`: {strong(",,")}, `",",","`: {strong(","), strong(",")}, `",a", "b,"`: {strong(",a"), strong("b,")}, `W/"a,b,c",",d"`: {weak("a,b,c"), strong(",d")}, `"*"`: {strong("*")}, `"*", W/"*"`: {strong("*"), weak("*")}, `"a",",",W/","`: {strong("a"), strong(","), weak(",")}, `"W/",W/"W/"`: {strong("W/"), weak("W/")}, `"a\",",\"`: {strong(`a\`), strong(`,\`)},
	} {
		if got, any, e := tag.List(s); e != api.OK || any || !slices.Equal(got, want) {
			t.Errorf("%q: %v %v %v", s, got, any, e)
		}
	}
}

func TestListOfAny(t *testing.T) {
	for _, ahead := range around() {
		for _, behind := range around() {
			if l, any, e := tag.List(ahead + "*" + behind); len(l) != 0 || !any || e != api.OK {
				t.Errorf("%q: %v %v %v", ahead+"*"+behind, l, any, e)
			}
		}
	}
}

func refusedList(t *testing.T, s string, want api.Errno) {
	t.Helper()
	if l, any, e := tag.List(s); len(l) != 0 || any || e != want {
		t.Errorf("%.60q: %v %v %v", s, l, any, e)
	}
}

func TestListRefuses(t *testing.T) {
	for _, s := range []string{
		// nothing is left
		"", " ", "\t", ",", ",,", ", ,", " ,\t, ",
		// * beside others, twice, or among other blanks
		"**", "* *", "*,", ",*", "*,*", "*, \"a\"", "\"a\", *", "\"a\",*,\"b\"", "*\n", "\r*", "*\v", "\u00a0*", "W/*", "*\x00", "\uff0a",
		// no comma between
		`"a" "b"`, `"a""b"`, `"a"W/"b"`, `"a";"b"`, "\"a\"\t\"b\"", `"a" , "b" "c"`, "\"a\"\uff0c\"b\"",
		// quotes that nothing ends take all behind them
		`"`, `"a`, `"a,b`, `"a, "b"`, `"a","b`, `"a","b,`, `"a",",`, `"a","`, `a","b"`, `"a,"b"`, `W/"a`, `"a",W/"`,
		// a comma is within quotes that another quote has begun
		`"a"x","b"`, `x"a,b"`, `"a"",",""`, `"a"b,c"`,
		// blanks within
		`"a b"`, `W/ "a"`, `W /"a"`, `" a"`, `"a", "b "`, "\"a\",\"\"", `"", "a"`, `W/""`,
	} {
		refusedList(t, s, api.ErrForm)
	}
	for _, s := range noTag() {
		if s != "*" {
			refusedList(t, s, api.ErrForm)
		}
		refusedList(t, s+",", api.ErrForm)
		refusedList(t, s+`,"a"`, api.ErrForm)
		refusedList(t, `"a",`+s, api.ErrForm)
		refusedList(t, `"a", `+s+` ,W/"b"`, api.ErrForm)
	}
	for _, text := range wrong() {
		refusedList(t, spelled(strong(text)), api.ErrForm)
		refusedList(t, `"a",`+spelled(weak(text))+`,"b"`, api.ErrForm)
	}
}

func TestListOfManyTags(t *testing.T) {
	for _, n := range []int{1, 2, 63, 64} {
		if l, any, e := tag.List(tag.Texts(tags(n), false)); e != api.OK || any || !slices.Equal(l, tags(n)) {
			t.Error(n, len(l), any, e)
		}
	}
	most := tag.Texts(tags(64), false)
	if l, _, e := tag.List(",, " + strings.ReplaceAll(most, ", ", ",\t,,") + " , ,"); e != api.OK || !slices.Equal(l, tags(64)) {
		t.Error(len(l), e)
	}
	for _, n := range []int{65, 66, 67, 100, 1000} {
		many := tag.Texts(tags(n), false)
		refusedList(t, many, api.ErrMany)
		refusedList(t, " ,"+many+",", api.ErrMany)
		// one that is no spelling goes ahead of too many, wherever it stands
		refusedList(t, many+",x", api.ErrForm)
		refusedList(t, "x,"+many, api.ErrForm)
		refusedList(t, many+",*", api.ErrForm)
		refusedList(t, many+",\"", api.ErrForm)
		refusedList(t, "\"a\",\"\","+many, api.ErrForm)
	}
	one := strings.Repeat(`"a",`, 65)
	refusedList(t, one, api.ErrMany)
	if l, _, e := tag.List(one[len(`"a",`):]); e != api.OK || len(l) != 64 {
		t.Error(len(l), e)
	}
}

// Blanks and empty parts there may be as many as one likes.
func TestListOfLongTexts(t *testing.T) {
	long := strings.Repeat(" ,\t", api.MaxText)
	if l, any, e := tag.List(long + `"a,b"` + long + `W/"c"` + long); e != api.OK || any || !slices.Equal(l, []api.Tag{strong("a,b"), weak("c")}) {
		t.Error(l, any, e)
	}
	refusedList(t, long, api.ErrForm)
	refusedList(t, `"a`+long, api.ErrForm)
	refusedList(t, strings.Repeat(`"`, api.MaxText), api.ErrForm)
}

// P5.4

func TestStrongAndWeak(t *testing.T) {
	for _, c := range []struct {
		a, b          api.Tag
		strong, loose bool
	}{
		{strong("a"), strong("a"), true, true}, {weak("a"), strong("a"), false, true}, {strong("a"), weak("a"), false, true}, {weak("a"), weak("a"), false, true},
		{strong("a"), strong("b"), false, false}, {weak("a"), weak("b"), false, false}, {strong("a"), weak("b"), false, false},
		{strong("a"), strong("A"), false, false}, {strong("a"), strong("aa"), false, false}, {strong("W/a"), weak("a"), false, false},
		{api.Tag{}, api.Tag{}, false, false}, {api.Tag{Weak: true}, api.Tag{Weak: true}, false, false}, {api.Tag{}, strong("a"), false, false}, {strong("a"), api.Tag{}, false, false}, {api.Tag{}, api.Tag{Weak: true}, false, false},
	} {
		if got := tag.Strong(c.a, c.b); got != c.strong {
			t.Error("Strong", c.a, c.b, got)
		}
		if got := tag.Weak(c.a, c.b); got != c.loose {
			t.Error("Weak", c.a, c.b, got)
		}
	}
	// what isn't right is none, not even the same as itself
	for _, text := range wrong() {
		for _, a := range []api.Tag{strong(text), weak(text)} {
			for _, b := range []api.Tag{strong(text), weak(text), strong("a")} {
				if tag.Strong(a, b) || tag.Weak(a, b) || tag.Strong(b, a) || tag.Weak(b, a) || tag.In([]api.Tag{a}, b, true) || tag.In([]api.Tag{b}, a, false) {
					t.Errorf("%q %q", a.Text, b.Text)
				}
			}
		}
	}
	for i, a := range right() {
		for j, b := range right() {
			if tag.Strong(strong(a), strong(b)) != (i == j) || tag.Weak(weak(a), strong(b)) != (i == j) || tag.Weak(strong(a), weak(b)) != (i == j) || tag.Weak(weak(a), weak(b)) != (i == j) || tag.Strong(weak(a), strong(b)) {
				t.Errorf("%q %q", a, b)
			}
		}
	}
}

func TestIn(t *testing.T) {
	l := []api.Tag{strong("a"), weak("b"), {}, strong("no right"), strong("c"), weak("c"), {Weak: true}}
	for _, c := range []struct {
		t             api.Tag
		strong, loose bool
	}{
		{strong("a"), true, true}, {weak("a"), false, true}, {strong("b"), false, true}, {weak("b"), false, true}, {strong("c"), true, true}, {weak("c"), false, true},
		{strong("d"), false, false}, {weak("d"), false, false}, {strong("A"), false, false}, {api.Tag{}, false, false}, {api.Tag{Weak: true}, false, false}, {strong("no right"), false, false},
	} {
		given := slices.Clone(l)
		if a, b := tag.In(l, c.t, true), tag.In(l, c.t, false); a != c.strong || b != c.loose || !slices.Equal(l, given) {
			t.Error(c.t, a, b)
		}
		if tag.In(nil, c.t, true) || tag.In(nil, c.t, false) || tag.In([]api.Tag{}, c.t, true) || tag.In([]api.Tag{}, c.t, false) {
			t.Error("an empty list", c.t)
		}
	}
	for i, x := range tags(200) {
		if !tag.In(tags(200), x, false) || tag.In(tags(i), x, false) || tag.In(tags(200), x, true) == x.Weak {
			t.Error(i, x)
		}
	}
}

// P5.5

func TestWhatIsToldIsRead(t *testing.T) {
	var l []api.Tag
	for _, text := range right() {
		for _, x := range []api.Tag{strong(text), weak(text)} {
			l = append(l, x)
			if got, e := tag.Parse(tag.Text(x)); got != x || e != api.OK {
				t.Error(x, got, e)
			}
			if got, any, e := tag.List(tag.Text(x)); len(got) != 1 || got[0] != x || any || e != api.OK {
				t.Error(x, got, any, e)
			}
		}
	}
	for n := 1; n <= min(len(l), 64); n++ {
		if got, any, e := tag.List(tag.Texts(l[:n], false)); !slices.Equal(got, l[:n]) || any || e != api.OK {
			t.Error(n, got, any, e)
		}
	}
	for _, a := range l {
		for _, b := range l {
			if got, any, e := tag.List(tag.Texts([]api.Tag{a, b, a}, false)); !slices.Equal(got, []api.Tag{a, b, a}) || any || e != api.OK {
				t.Error(a, b, got, any, e)
			}
		}
	}
	if got, any, e := tag.List(tag.Texts(l, true)); len(got) != 0 || !any || e != api.OK {
		t.Error(got, any, e)
	}
}

func TestBlanksAboutCommas(t *testing.T) {
	want := []api.Tag{strong("a,b"), weak(","), strong("c")}
	for _, one := range around() {
		for _, two := range around() {
			s := two + spelled(want[0]) + one + "," + two + spelled(want[1]) + two + "," + one + spelled(want[2]) + one
			if got, any, e := tag.List(s); !slices.Equal(got, want) || any || e != api.OK {
				t.Errorf("%.60q: %v %v %v", s, got, any, e)
			}
			refusedList(t, two+spelled(want[0])+one+","+two+"x"+one, api.ErrForm)
		}
	}
}

// holds is whether a text's memory lies in another one's.
func holds(whole, text string) bool {
	at, begin := uintptr(unsafe.Pointer(unsafe.StringData(text))), uintptr(unsafe.Pointer(unsafe.StringData(whole)))
	return begin <= at && at < begin+uintptr(len(whole))
}

// What is answered shares no memory with an argument, nor with what is answered next.
func TestAnswersShareNothing(t *testing.T) {
	s := `"first", W/"second"`
	first, _, _ := tag.List(s)
	again, _, _ := tag.List(s)
	one, _ := tag.Parse(s[:len(`"first"`)])
	if holds(s, first[0].Text) || holds(s, first[1].Text) || holds(s, one.Text) {
		t.Error("an answer lies in the argument")
	}
	first[0], first[1] = api.Tag{}, api.Tag{}
	if !slices.Equal(again, []api.Tag{strong("first"), weak("second")}) {
		t.Error(again)
	}
}
