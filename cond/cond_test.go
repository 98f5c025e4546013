package cond_test

import (
	"math"
	"slices"
	"strconv"
	"strings"
	"testing"
	"unsafe"

	"mandoline/api"
	"mandoline/cond"
	"mandoline/field"
)

const (
	lastTick int64 = 253402300799
	lastDate       = "Fri, 31 Dec 9999 23:59:59 GMT"
	zeroDate       = "Thu, 01 Jan 1970 00:00:00 GMT"
	someTick int64 = 784111777
	someDate       = "Sun, 06 Nov 1994 08:49:37 GMT"
)

// strong and weak are tags of a text; noTag is what is kept of a Range that is no tag.
func strong(text string) api.Tag { return api.Tag{Text: text} }
func weak(text string) api.Tag   { return api.Tag{Text: text, Weak: true} }
func noTag() api.Tag             { return api.Tag{Weak: true} }

// f is a field.
func f(name, value string) api.Field { return api.Field{Name: name, Value: value} }

// with is no conditions but those that are put there.
func with(change func(*api.Cond)) api.Cond {
	c := api.Cond{Since: -1, Unless: -1}
	change(&c)
	return c
}

// tags is so many right tags, each another one, every third one weak.
func tags(n int) []api.Tag {
	var l []api.Tag
	for i := range n {
		l = append(l, api.Tag{Text: "v" + strconv.Itoa(i), Weak: i%3 == 0})
	}
	return l
}

// spelled is the spellings of tags, with a comma and a blank between each two.
func spelled(l []api.Tag) string {
	var texts []string
	for _, t := range l {
		s := "\"" + t.Text + "\""
		if t.Weak {
			s = "W/" + s
		}
		texts = append(texts, s)
	}
	return strings.Join(texts, ", ")
}

// alike is whether conditions are the same; an empty list and no list are one.
func alike(a, b api.Cond) bool {
	return slices.Equal(a.Match, b.Match) && slices.Equal(a.None, b.None) && a.AnyMatch == b.AnyMatch && a.AnyNone == b.AnyNone && a.Since == b.Since && a.Unless == b.Unless && a.Range == b.Range
}

// P8.1: None

func TestNone(t *testing.T) {
	c := cond.None()
	if !alike(c, api.Cond{Since: -1, Unless: -1}) || !cond.Right(c) {
		t.Error(c)
	}
	if l, e := cond.Fields(c); len(l) != 0 || e != api.OK {
		t.Error(l, e)
	}
}

// P8.1: Check

// kept is a version: the tag "a", changed at tick 10, of 9 bytes.
func kept() api.Meta {
	return api.Meta{Tag: strong("a"), Modified: 10, Length: 9, Have: 9}
}

// other is that version with something else about it.
func other(change func(*api.Meta)) api.Meta {
	m := kept()
	change(&m)
	return m
}

// asked is a request of a range.
func asked(c api.Cond) api.Request {
	return api.Request{Object: "/o", Specs: []api.Spec{{From: 0, To: 1}}, Cond: c}
}

// comes asks what conditions come to, of a version and of nothing.
func comes(t *testing.T, c api.Cond, m api.Meta, there, gone int) {
	t.Helper()
	if got := cond.Check(asked(c), m, true); got != there {
		t.Errorf("%v of %v: %d", c, m, got)
	}
	for _, of := range []api.Meta{m, {}} {
		if got := cond.Check(asked(c), of, false); got != gone {
			t.Errorf("%v of nothing, and %v: %d", c, of, got)
		}
	}
}

func TestCheckOfNone(t *testing.T) {
	for _, m := range []api.Meta{kept(), {}, other(func(m *api.Meta) { m.Tag = weak("a") }), other(func(m *api.Meta) { m.Length = -1 }), other(func(m *api.Meta) { m.Modified = -1 })} {
		comes(t, cond.None(), m, cond.Go, cond.Go)
	}
}

func TestCheckOfMatch(t *testing.T) {
	match := func(l ...api.Tag) api.Cond { return with(func(c *api.Cond) { c.Match = l }) }
	for _, l := range [][]api.Tag{{strong("a")}, {strong("b"), strong("a")}, {strong("a"), strong("b")}, {weak("a"), strong("a")}, append(tags(31), strong("a"))} {
		comes(t, match(l...), kept(), cond.Go, cond.Failed)
		comes(t, match(l...), other(func(m *api.Meta) { m.Tag = weak("a") }), cond.Failed, cond.Failed)
		comes(t, match(l...), other(func(m *api.Meta) { m.Tag = api.Tag{} }), cond.Failed, cond.Failed)
	}
	for _, l := range [][]api.Tag{{strong("b")}, {weak("a")}, {strong("A")}, {strong("b"), weak("a")}, tags(32)} {
		comes(t, match(l...), kept(), cond.Failed, cond.Failed)
	}
	every := with(func(c *api.Cond) { c.AnyMatch = true })
	for _, m := range []api.Meta{kept(), {}, other(func(m *api.Meta) { m.Tag = weak("a") }), other(func(m *api.Meta) { m.Tag = api.Tag{} })} {
		comes(t, every, m, cond.Go, cond.Failed)
	}
}

func TestCheckOfUnless(t *testing.T) {
	unless := func(tick int64) api.Cond { return with(func(c *api.Cond) { c.Unless = tick }) }
	changed := func(tick int64) api.Meta { return other(func(m *api.Meta) { m.Modified = tick }) }
	for _, x := range []struct {
		unless, modified int64
		want             int
	}{
		{9, 10, cond.Failed}, {10, 10, cond.Go}, {11, 10, cond.Go}, {0, 0, cond.Go}, {0, 1, cond.Failed}, {0, -1, cond.Go}, {-1, 0, cond.Go}, {-1, 10, cond.Go}, {-1, lastTick, cond.Go},
		{lastTick - 1, lastTick, cond.Failed}, {lastTick, lastTick, cond.Go}, {0, lastTick, cond.Failed}, {-2, -1, cond.Go}, {math.MinInt64, -1, cond.Go}, {math.MinInt64, 10, cond.Go},
	} {
		comes(t, unless(x.unless), changed(x.modified), x.want, cond.Go)
	}
	// of what grows it counts, too
	comes(t, unless(9), other(func(m *api.Meta) { m.Length = -1 }), cond.Failed, cond.Go)
	// with a Match it plays no part, be that told or not
	comes(t, with(func(c *api.Cond) { c.Unless = 9; c.Match = []api.Tag{strong("a")} }), kept(), cond.Go, cond.Failed)
	comes(t, with(func(c *api.Cond) { c.Unless = 9; c.AnyMatch = true }), kept(), cond.Go, cond.Failed)
	comes(t, with(func(c *api.Cond) { c.Unless = 10; c.Match = []api.Tag{strong("b")} }), kept(), cond.Failed, cond.Failed)
	// tags of None don't keep it from counting
	comes(t, with(func(c *api.Cond) { c.Unless = 9; c.None = []api.Tag{strong("b")} }), kept(), cond.Failed, cond.Go)
}

func TestCheckOfNoneTags(t *testing.T) {
	none := func(l ...api.Tag) api.Cond { return with(func(c *api.Cond) { c.None = l }) }
	weakly := other(func(m *api.Meta) { m.Tag = weak("a") })
	for _, l := range [][]api.Tag{{strong("a")}, {weak("a")}, {strong("b"), weak("a")}, {weak("a"), strong("b")}, append(tags(31), strong("a"))} {
		comes(t, none(l...), kept(), cond.Same, cond.Go)
		comes(t, none(l...), weakly, cond.Same, cond.Go)
		comes(t, none(l...), other(func(m *api.Meta) { m.Length = -1 }), cond.Same, cond.Go)
		comes(t, none(l...), other(func(m *api.Meta) { m.Tag = api.Tag{} }), cond.Go, cond.Go)
	}
	for _, l := range [][]api.Tag{{strong("b")}, {weak("b")}, {strong("A")}, {weak("aa")}, tags(32)} {
		comes(t, none(l...), kept(), cond.Go, cond.Go)
		comes(t, none(l...), weakly, cond.Go, cond.Go)
	}
	every := with(func(c *api.Cond) { c.AnyNone = true })
	for _, m := range []api.Meta{kept(), {}, weakly, other(func(m *api.Meta) { m.Length = -1 }), other(func(m *api.Meta) { m.Tag = api.Tag{} })} {
		comes(t, every, m, cond.Same, cond.Go)
	}
}

func TestCheckOfSince(t *testing.T) {
	since := func(tick int64) api.Cond { return with(func(c *api.Cond) { c.Since = tick }) }
	changed := func(tick int64) api.Meta { return other(func(m *api.Meta) { m.Modified = tick }) }
	for _, x := range []struct {
		since, modified int64
		want            int
	}{
		{9, 10, cond.Go}, {10, 10, cond.Same}, {11, 10, cond.Same}, {0, 0, cond.Same}, {0, 1, cond.Go}, {0, -1, cond.Go}, {-1, -1, cond.Go}, {-1, 0, cond.Go}, {10, -1, cond.Go}, {lastTick, -1, cond.Go},
		{lastTick, lastTick, cond.Same}, {lastTick, 0, cond.Same}, {lastTick - 1, lastTick, cond.Go}, {-1, -2, cond.Go}, {-1, math.MinInt64, cond.Go}, {10, math.MinInt64, cond.Go},
	} {
		comes(t, since(x.since), changed(x.modified), x.want, cond.Go)
		// what grows may have got bytes within that tick
		growing := changed(x.modified)
		growing.Length = -1
		comes(t, since(x.since), growing, cond.Go, cond.Go)
		empty := changed(x.modified)
		empty.Length, empty.Have = 0, 0
		comes(t, since(x.since), empty, x.want, cond.Go)
	}
	// with a None it plays no part
	comes(t, with(func(c *api.Cond) { c.Since = 10; c.None = []api.Tag{strong("b")} }), kept(), cond.Go, cond.Go)
	comes(t, with(func(c *api.Cond) { c.Since = 9; c.None = []api.Tag{strong("a")} }), kept(), cond.Same, cond.Go)
	comes(t, with(func(c *api.Cond) { c.Since = 9; c.AnyNone = true }), kept(), cond.Same, cond.Go)
	// tags of Match don't keep it from counting
	comes(t, with(func(c *api.Cond) { c.Since = 10; c.Match = []api.Tag{strong("a")} }), kept(), cond.Same, cond.Failed)
	comes(t, with(func(c *api.Cond) { c.Since = 10; c.AnyMatch = true }), kept(), cond.Same, cond.Failed)
}

func TestCheckOfRange(t *testing.T) {
	of := func(x api.Tag) api.Cond { return with(func(c *api.Cond) { c.Range = x }) }
	comes(t, of(strong("a")), kept(), cond.Go, cond.Go)
	for _, x := range []api.Tag{weak("a"), strong("b"), weak("b"), strong("A"), noTag()} {
		comes(t, of(x), kept(), cond.Whole, cond.Go)
	}
	// a weak tag, and none, are no one's bytes
	for _, x := range []api.Tag{strong("a"), weak("a"), strong("b"), noTag()} {
		comes(t, of(x), other(func(m *api.Meta) { m.Tag = weak("a") }), cond.Whole, cond.Go)
		comes(t, of(x), other(func(m *api.Meta) { m.Tag = api.Tag{} }), cond.Whole, cond.Go)
		comes(t, of(x), other(func(m *api.Meta) { m.Tag = noTag() }), cond.Whole, cond.Go)
	}
	for _, x := range []api.Tag{{}, strong("a"), weak("a"), strong("b"), noTag()} {
		for _, l := range [][]api.Spec{nil, {}} {
			r := api.Request{Object: "/o", Specs: l, Cond: of(x)}
			if got := cond.Check(r, kept(), true); got != cond.Go {
				t.Error("no ranges", x, got)
			}
		}
	}
	for _, l := range [][]api.Spec{{{From: -1, To: 3}}, {{From: 3, To: -1}}, {{From: 0, To: 0}, {From: 100, To: 200}}} {
		r := api.Request{Object: "/o", Specs: l, Cond: of(strong("b"))}
		if got := cond.Check(r, kept(), true); got != cond.Whole {
			t.Error(l, got)
		}
	}
}

// step is the document's words on what conditions come to, step by step, apart from the package.
func step(c api.Cond, m api.Meta, specs, there bool) int {
	one := func(l []api.Tag, strictly bool) bool {
		return slices.ContainsFunc(l, func(x api.Tag) bool {
			return x.Text != "" && x.Text == m.Tag.Text && (!strictly || !x.Weak && !m.Tag.Weak)
		})
	}
	at := 1
	for {
		switch at {
		case 1:
			at = 2
			if len(c.Match) > 0 || c.AnyMatch {
				if !there {
					return cond.Failed
				}
				if !c.AnyMatch && !one(c.Match, true) {
					return cond.Failed
				}
				at = 3
			}
		case 2:
			at = 3
			if c.Unless >= 0 && there && m.Modified >= 0 && m.Modified > c.Unless {
				return cond.Failed
			}
		case 3:
			at = 4
			if len(c.None) > 0 || c.AnyNone {
				if there && (c.AnyNone || one(c.None, false)) {
					return cond.Same
				}
				at = 5
			}
		case 4:
			at = 5
			if c.Since >= 0 && there && m.Length != -1 && m.Modified >= 0 && m.Modified <= c.Since {
				return cond.Same
			}
		case 5:
			at = 6
			if specs && c.Range != (api.Tag{}) && there && !one([]api.Tag{c.Range}, true) {
				return cond.Whole
			}
		default:
			return cond.Go
		}
	}
}

// lists is lists of tags for a condition, with *, too.
func lists() []api.Cond {
	return []api.Cond{{}, {AnyMatch: true}, {Match: []api.Tag{strong("a")}}, {Match: []api.Tag{weak("a")}}, {Match: []api.Tag{strong("b"), weak("c")}}, {Match: []api.Tag{strong("b"), strong("a")}}}
}

// conditions is right ones, all of some that go together.
func conditions() []api.Cond {
	var l []api.Cond
	for _, match := range lists() {
		for _, none := range lists() {
			for _, unless := range []int64{-1, 0, 9, 10, 11, lastTick} {
				for _, since := range []int64{-1, 0, 9, 10, 11, lastTick} {
					for _, x := range []api.Tag{{}, strong("a"), weak("a"), strong("b"), noTag()} {
						l = append(l, api.Cond{Match: match.Match, AnyMatch: match.AnyMatch, None: none.Match, AnyNone: none.AnyMatch, Unless: unless, Since: since, Range: x})
					}
				}
			}
		}
	}
	return l
}

// P8.1: the order of what is told
func TestCheckOfAllTogether(t *testing.T) {
	seen := map[int]int{}
	for _, c := range conditions() {
		for _, x := range []api.Tag{strong("a"), weak("a"), strong("b"), {}} {
			for _, modified := range []int64{-1, 0, 10, 12} {
				for _, length := range []int64{-1, 0, 9} {
					m := api.Meta{Tag: x, Modified: modified, Length: length, Have: max(length, 0)}
					for n := range 8 {
						specs, head, there := n&1 != 0, n&2 != 0, n&4 != 0
						r := api.Request{Head: head, Object: "/o", Cond: c}
						if specs {
							r.Specs = []api.Spec{{From: 0, To: 1}}
						}
						want := step(c, m, specs, there)
						seen[want]++
						if got := cond.Check(r, m, there); got != want {
							t.Fatalf("%v of %v, ranges: %v, there: %v: %d, not %d", c, m, specs, there, got, want)
						}
					}
				}
			}
		}
	}
	for _, want := range []int{cond.Go, cond.Whole, cond.Same, cond.Failed} {
		if seen[want] < 1000 {
			t.Error(want, seen[want])
		}
	}
}

// P8.1: Parse

func parsed(t *testing.T, l []api.Field, want api.Cond) {
	t.Helper()
	got, e := cond.Parse(l)
	if !alike(got, want) || e != api.OK || !cond.Right(got) {
		t.Errorf("%.200q: %v %v", l, got, e)
	}
}

func refused(t *testing.T, l []api.Field, want api.Errno) {
	t.Helper()
	if got, e := cond.Parse(l); !alike(got, api.Cond{}) || e != want {
		t.Errorf("%.200q: %v %v", l, got, e)
	}
}

func TestParseOfNoConditions(t *testing.T) {
	for _, l := range [][]api.Field{nil, {}, {f("Range", "bytes=0-1")}, {f("If", "*"), f("If-Match-", "x"), f("If_Match", "x"), f("If-None", "x"), f("ETag", "\"a\""), f("Last-Modified", someDate), f("Date", someDate), f("", "x"), f("Matched", "*"), f("If-Match ", "x"), f("\u0130f-Match", "x")}} {
		parsed(t, l, cond.None())
	}
}

// lines is tags as one finds them in the values of fields, with what they say.
func lines() []struct {
	values []string
	tags   []api.Tag
	any    bool
} {
	return []struct {
		values []string
		tags   []api.Tag
		any    bool
	}{
		{[]string{"*"}, nil, true}, {[]string{" \t* "}, nil, true},
		{[]string{`"a"`}, []api.Tag{strong("a")}, false}, {[]string{`W/"a"`}, []api.Tag{weak("a")}, false}, {[]string{`"*"`}, []api.Tag{strong("*")}, false},
		{[]string{`"a","b" , W/"c"`}, []api.Tag{strong("a"), strong("b"), weak("c")}, false}, {[]string{`"a"`, `"b"`, `W/"c"`}, []api.Tag{strong("a"), strong("b"), weak("c")}, false},
		{[]string{`"b"`, `"a"`, `"b"`}, []api.Tag{strong("b"), strong("a"), strong("b")}, false}, {[]string{`"a,b"`, `","`}, []api.Tag{strong("a,b"), strong(",")}, false},
		{[]string{"", `"a"`}, []api.Tag{strong("a")}, false}, {[]string{`"a"`, ""}, []api.Tag{strong("a")}, false}, {[]string{",", " , ", `"a",,`, "\t"}, []api.Tag{strong("a")}, false},
		{[]string{spelled(tags(32))}, tags(32), false}, {[]string{spelled(tags(32)[:31]), spelled(tags(32)[31:])}, tags(32), false}, {[]string{spelled(tags(16)), ", ,", spelled(tags(16))}, append(tags(16), tags(16)...), false},
	}
}

// noLists is values that are no list of tags.
func noLists() [][]string {
	return [][]string{
		{""}, {" "}, {"\t"}, {","}, {", ,"}, {"", ""}, {",", " "}, {"a"}, {`"a`}, {`a"`}, {`""`}, {`W/""`}, {`w/"a"`}, {`"a b"`}, {`"a" "b"`}, {"none"}, {someDate}, {"'a'"}, {`"a";"b"`}, {"**"}, {`W/*`}, {`"a"`, "b"}, {"b", `"a"`},
		// a * stands alone
		{"*", "*"}, {"*,"}, {"*, *"}, {"*", ""}, {"", "*"}, {"*", `"a"`}, {`"a"`, "*"}, {`"a", *`}, {`*, "a"`},
		// a blank comes between two values, within quotes too
		{`"a`, `b"`}, {`"a`, `"`}, {`"`, `"`},
		{"\"" + strings.Repeat("x", 101) + "\""}, {spelled(tags(32)), "x"}, {spelled(tags(33)), "x"}, {"x", spelled(tags(100))}, {spelled(tags(100)) + ",x"},
	}
}

// many is values of too many tags.
func many() [][]string {
	return [][]string{{spelled(tags(33))}, {spelled(tags(34))}, {spelled(tags(63))}, {spelled(tags(64))}, {spelled(tags(65))}, {spelled(tags(66))}, {spelled(tags(1000))}, {spelled(tags(32)), `"a"`}, {`"a"`, spelled(tags(32))}, {spelled(tags(17)), spelled(tags(16))}, {spelled(tags(64)), `"a"`}, slices.Repeat([]string{`"a"`}, 33)}
}

// named is fields of names that are alike, one for each value.
func named(names []string, values []string) []api.Field {
	var l []api.Field
	for i, value := range values {
		l = append(l, f(names[i%len(names)], value))
	}
	return l
}

func matches(values ...string) []api.Field {
	return named([]string{"If-Match", "if-match", "IF-MATCH", "iF-mATCH"}, values)
}

func nones(values ...string) []api.Field {
	return named([]string{"If-None-Match", "if-none-match", "IF-NONE-MATCH", "iF-nONE-mATCH"}, values)
}

func TestParseOfTags(t *testing.T) {
	for _, x := range lines() {
		parsed(t, matches(x.values...), with(func(c *api.Cond) { c.Match, c.AnyMatch = x.tags, x.any }))
		parsed(t, nones(x.values...), with(func(c *api.Cond) { c.None, c.AnyNone = x.tags, x.any }))
		for _, y := range lines() {
			want := with(func(c *api.Cond) { c.Match, c.AnyMatch, c.None, c.AnyNone = x.tags, x.any, y.tags, y.any })
			parsed(t, slices.Concat(matches(x.values...), nones(y.values...)), want)
			parsed(t, slices.Concat(nones(y.values...), []api.Field{f("a", "b")}, matches(x.values...)), want)
		}
	}
}

func TestParseRefuses(t *testing.T) {
	dates := []api.Field{f("If-Modified-Since", someDate), f("If-Unmodified-Since", "today"), f("If-Range", "x")}
	for _, x := range noLists() {
		refused(t, matches(x...), api.ErrForm)
		refused(t, nones(x...), api.ErrForm)
		refused(t, slices.Concat(dates, matches(x...)), api.ErrForm)
		refused(t, slices.Concat(nones(x...), dates), api.ErrForm)
		for _, y := range lines() {
			refused(t, slices.Concat(matches(x...), nones(y.values...)), api.ErrForm)
			refused(t, slices.Concat(matches(y.values...), nones(x...)), api.ErrForm)
		}
		// what is no list goes ahead of too many in the other one
		for _, y := range many() {
			refused(t, slices.Concat(matches(x...), nones(y...)), api.ErrForm)
			refused(t, slices.Concat(matches(y...), nones(x...)), api.ErrForm)
			refused(t, slices.Concat(nones(x...), matches(y...)), api.ErrForm)
		}
	}
	for _, x := range many() {
		refused(t, matches(x...), api.ErrMany)
		refused(t, nones(x...), api.ErrMany)
		refused(t, slices.Concat(dates, matches(x...)), api.ErrMany)
		for _, y := range lines() {
			refused(t, slices.Concat(matches(x...), nones(y.values...)), api.ErrMany)
			refused(t, slices.Concat(matches(y.values...), nones(x...)), api.ErrMany)
		}
		for _, y := range many() {
			refused(t, slices.Concat(nones(x...), matches(y...)), api.ErrMany)
		}
	}
}

func TestParseOfDates(t *testing.T) {
	for _, x := range []struct {
		values []string
		want   int64
	}{
		{[]string{someDate}, someTick}, {[]string{zeroDate}, 0}, {[]string{lastDate}, lastTick},
		// the first one counts, whatever it is
		{[]string{someDate, zeroDate}, someTick}, {[]string{zeroDate, someDate}, 0}, {[]string{someDate, "today"}, someTick}, {[]string{"today", someDate}, -1}, {[]string{"", someDate}, -1},
		{[]string{"today"}, -1}, {[]string{""}, -1}, {[]string{"*"}, -1}, {[]string{`"a"`}, -1}, {[]string{"784111777"}, -1}, {[]string{"-1"}, -1}, {[]string{"0"}, -1},
		{[]string{"Mon, 06 Nov 1994 08:49:37 GMT"}, -1}, {[]string{" " + someDate}, -1}, {[]string{someDate + " "}, -1}, {[]string{strings.ToLower(someDate)}, -1}, {[]string{someDate + ", " + someDate}, -1}, {[]string{"Sunday, 06-Nov-94 08:49:37 GMT"}, -1}, {[]string{"Wed, 31 Dec 1969 23:59:59 GMT"}, -1},
	} {
		since := named([]string{"If-Modified-Since", "IF-MODIFIED-SINCE", "if-modified-since"}, x.values)
		unless := named([]string{"If-Unmodified-Since", "if-unmodified-since"}, x.values)
		parsed(t, since, with(func(c *api.Cond) { c.Since = x.want }))
		parsed(t, unless, with(func(c *api.Cond) { c.Unless = x.want }))
		parsed(t, slices.Concat(since, unless), with(func(c *api.Cond) { c.Since, c.Unless = x.want, x.want }))
		parsed(t, slices.Concat(unless, []api.Field{f("if-modified-since", zeroDate)}), with(func(c *api.Cond) { c.Since, c.Unless = 0, x.want }))
	}
}

func TestParseOfRange(t *testing.T) {
	for _, x := range []struct {
		values []string
		want   api.Tag
	}{
		{[]string{`"a"`}, strong("a")}, {[]string{`W/"a"`}, weak("a")}, {[]string{" \t\"a\" "}, strong("a")}, {[]string{`"a,b"`}, strong("a,b")}, {[]string{`"*"`}, strong("*")}, {[]string{"\"" + strings.Repeat("x", 100) + "\""}, strong(strings.Repeat("x", 100))},
		// the first one counts, whatever it is
		{[]string{`"a"`, `"b"`}, strong("a")}, {[]string{`"a"`, "x"}, strong("a")}, {[]string{"x", `"a"`}, noTag()}, {[]string{"", `"a"`}, noTag()},
		{[]string{""}, noTag()}, {[]string{"a"}, noTag()}, {[]string{"*"}, noTag()}, {[]string{`""`}, noTag()}, {[]string{`W/""`}, noTag()}, {[]string{`w/"a"`}, noTag()}, {[]string{`"a", "b"`}, noTag()}, {[]string{`"a",`}, noTag()}, {[]string{`"a b"`}, noTag()}, {[]string{someDate}, noTag()}, {[]string{"\"" + strings.Repeat("x", 101) + "\""}, noTag()},
	} {
		l := named([]string{"If-Range", "IF-RANGE", "if-range"}, x.values)
		parsed(t, l, with(func(c *api.Cond) { c.Range = x.want }))
		parsed(t, named([]string{"iF-rANGE"}, x.values), with(func(c *api.Cond) { c.Range = x.want }))
		parsed(t, slices.Concat([]api.Field{f("If-None-Match", "*")}, l, []api.Field{f("If-Match", `"m"`)}), with(func(c *api.Cond) { c.Range, c.AnyNone, c.Match = x.want, true, []api.Tag{strong("m")} }))
	}
}

// P8.1: Right and Fields

func TestRight(t *testing.T) {
	for _, c := range slices.Concat(conditions(), edges()) {
		if !cond.Right(c) {
			t.Errorf("%v", c)
		}
	}
	for _, c := range wrong() {
		if cond.Right(c) {
			t.Errorf("%v", c)
		}
	}
}

// edges is right conditions as great, or as small, as they may be.
func edges() []api.Cond {
	long := slices.Repeat([]api.Tag{weak(strings.Repeat("x", 100)), strong(strings.Repeat(",", 100))}, 16)
	return []api.Cond{
		{}, cond.None(), {Match: []api.Tag{}, None: []api.Tag{}}, {AnyMatch: true, None: tags(32)}, {AnyNone: true, Match: tags(32)}, {AnyMatch: true, AnyNone: true, Match: []api.Tag{}}, {Match: tags(32), None: tags(32), Since: lastTick, Unless: lastTick, Range: noTag()},
		{Match: tags(1), Since: -1}, {None: tags(31), Unless: -1}, {Match: long, None: long, Range: long[0]}, {Match: slices.Repeat(tags(1), 32), Range: strong("W/")}, {Since: lastTick, Unless: -1}, {Since: -1, Unless: lastTick}, {Since: 1, Unless: 1, Range: strong("*")},
	}
}

// wrong is conditions that aren't right, each for one thing.
func wrong() []api.Cond {
	var l []api.Cond
	put := func(change func(*api.Cond)) { l = append(l, with(change)) }
	for _, n := range []int{33, 34, 64, 65, 1000} {
		put(func(c *api.Cond) { c.Match = tags(n) })
		put(func(c *api.Cond) { c.None = tags(n) })
	}
	for _, n := range []int{1, 2, 32, 33} {
		put(func(c *api.Cond) { c.Match, c.AnyMatch = tags(n), true })
		put(func(c *api.Cond) { c.None, c.AnyNone = tags(n), true })
	}
	for _, x := range []api.Tag{{}, noTag(), strong("a b"), weak("a\""), strong("\u00e4"), strong(strings.Repeat("x", 101)), strong("\x7f"), weak("\n")} {
		for _, at := range []int{0, 1, 31} {
			put(func(c *api.Cond) { c.Match = slices.Insert(tags(31), at, x) })
			put(func(c *api.Cond) { c.None = slices.Insert(tags(31), at, x) })
		}
		put(func(c *api.Cond) { c.Match = []api.Tag{x} })
		put(func(c *api.Cond) { c.None = []api.Tag{x} })
		if x.Text != "" {
			put(func(c *api.Cond) { c.Range = x })
		}
	}
	for _, tick := range []int64{-2, -3, -86400, lastTick + 1, lastTick + 2, api.Open, math.MinInt64, math.MaxInt64} {
		put(func(c *api.Cond) { c.Since = tick })
		put(func(c *api.Cond) { c.Unless = tick })
	}
	return l
}

func TestFields(t *testing.T) {
	for _, x := range []struct {
		c    api.Cond
		want []api.Field
	}{
		{api.Cond{}, []api.Field{f("If-Unmodified-Since", zeroDate), f("If-Modified-Since", zeroDate)}},
		{with(func(c *api.Cond) { c.AnyMatch = true }), []api.Field{f("If-Match", "*")}},
		{with(func(c *api.Cond) { c.AnyNone = true }), []api.Field{f("If-None-Match", "*")}},
		{with(func(c *api.Cond) { c.Match = []api.Tag{strong("a"), weak("b,c")} }), []api.Field{f("If-Match", `"a", W/"b,c"`)}},
		{with(func(c *api.Cond) { c.None = []api.Tag{weak("a")} }), []api.Field{f("If-None-Match", `W/"a"`)}},
		{with(func(c *api.Cond) { c.Since = someTick }), []api.Field{f("If-Modified-Since", someDate)}},
		{with(func(c *api.Cond) { c.Unless = lastTick }), []api.Field{f("If-Unmodified-Since", lastDate)}},
		{with(func(c *api.Cond) { c.Range = strong("a") }), []api.Field{f("If-Range", `"a"`)}},
		{with(func(c *api.Cond) { c.Range = weak("a") }), []api.Field{f("If-Range", `W/"a"`)}},
		{with(func(c *api.Cond) { c.Range = noTag() }), []api.Field{f("If-Range", "")}},
		{
			api.Cond{Match: tags(32), AnyNone: true, Since: 0, Unless: someTick, Range: weak("r")},
			[]api.Field{f("If-Match", spelled(tags(32))), f("If-Unmodified-Since", someDate), f("If-None-Match", "*"), f("If-Modified-Since", zeroDate), f("If-Range", `W/"r"`)},
		},
		{
			api.Cond{AnyMatch: true, None: tags(2), Since: someTick, Unless: -1, Range: noTag()},
			[]api.Field{f("If-Match", "*"), f("If-None-Match", `W/"v0", "v1"`), f("If-Modified-Since", someDate), f("If-Range", "")},
		},
	} {
		if l, e := cond.Fields(x.c); !slices.Equal(l, x.want) || e != api.OK {
			t.Errorf("%v: %q %v", x.c, l, e)
		}
	}
	for _, c := range wrong() {
		if l, e := cond.Fields(c); len(l) != 0 || e != api.ErrArg {
			t.Errorf("%v: %q %v", c, l, e)
		}
	}
}

// P8.2

func TestWhatIsToldIsRead(t *testing.T) {
	for _, c := range slices.Concat(conditions(), edges()) {
		l, e := cond.Fields(c)
		if e != api.OK {
			t.Fatalf("%v: %v", c, e)
		}
		parsed(t, l, c)
		// nor does it matter what else there is, and in which order the fields of unlike names come
		around := slices.Concat([]api.Field{f("Range", "bytes=0-1"), f("Match", "x")}, l, []api.Field{f("ETag", "x")})
		slices.Reverse(around)
		parsed(t, around, c)
	}
}

// Right conditions make right fields, which go through a block.
func TestFieldsGoThroughBlocks(t *testing.T) {
	for _, c := range edges() {
		l, _ := cond.Fields(c)
		block, e := field.Put(l)
		if e != api.OK {
			t.Fatalf("%v: %v", c, e)
		}
		got, _, e := field.Parse(block)
		if e != api.OK {
			t.Fatalf("%v: %v", c, e)
		}
		parsed(t, got, c)
	}
}

// What is parsed is told again as fields that are parsed as the same.
func TestWhatIsReadIsTold(t *testing.T) {
	for _, x := range lines() {
		for _, date := range []string{someDate, "today"} {
			for _, value := range []string{`"r"`, `W/"r"`, "", "r"} {
				c, _ := cond.Parse(slices.Concat(matches(x.values...), nones(x.values...), []api.Field{f("If-Range", value), f("If-Modified-Since", date)}))
				l, e := cond.Fields(c)
				if e != api.OK {
					t.Fatalf("%v: %v", c, e)
				}
				parsed(t, l, c)
			}
		}
	}
}

// holds is whether a text's memory lies in another one's.
func holds(whole, text string) bool {
	at, begin := uintptr(unsafe.Pointer(unsafe.StringData(text))), uintptr(unsafe.Pointer(unsafe.StringData(whole)))
	return len(text) > 0 && begin <= at && at < begin+uintptr(len(whole))
}

// What is answered shares no memory with an argument, nor with what is answered next, and no argument is written into.
func TestAnswersShareNothing(t *testing.T) {
	l := []api.Field{f("If-Match", `"first", W/"second"`), f("If-None-Match", `"third"`), f("If-Range", `"fourth"`)}
	given := slices.Clone(l)
	c, _ := cond.Parse(l)
	for _, x := range slices.Concat(c.Match, c.None, []api.Tag{c.Range}) {
		for _, argument := range l {
			if holds(argument.Value, x.Text) {
				t.Errorf("%q lies in %q", x.Text, argument.Value)
			}
		}
	}
	told, _ := cond.Fields(c)
	for _, x := range told {
		for _, argument := range slices.Concat(c.Match, c.None, []api.Tag{c.Range}) {
			if holds(argument.Text, x.Value) {
				t.Errorf("%q lies in %q", x.Value, argument.Text)
			}
		}
	}
	if len(told) != 3 || len(c.Match) != 2 || len(c.None) != 1 {
		t.Fatal(told, c)
	}
	again, _ := cond.Parse(l)
	toldAgain, _ := cond.Fields(again)
	if cond.Check(asked(again), kept(), true) != cond.Failed {
		t.Error(again)
	}
	told[0] = api.Field{}
	c.Match[0], c.None[0] = api.Tag{}, api.Tag{}
	want := api.Cond{Match: []api.Tag{strong("first"), weak("second")}, None: []api.Tag{strong("third")}, Since: -1, Unless: -1, Range: strong("fourth")}
	if !slices.Equal(l, given) || !alike(again, want) || !slices.Equal(toldAgain, l) {
		t.Error(l, again, toldAgain)
	}
}
