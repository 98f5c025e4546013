package imap_test

import (
	"math"
	"slices"
	"strconv"
	"strings"
	"testing"

	"mandoline/api"
	"mandoline/imap"
	"mandoline/span"
)

const open = api.Open

var none api.Span

func sp(from, to int64) api.Span { return api.Span{From: from, To: to} }

// wrong is spans that aren't right: below 0, upside down, or beyond Open.
func wrong() []api.Span {
	return []api.Span{
		sp(-1, 0), sp(-1, 5), sp(-3, -1), sp(-1, open), sp(1, 0), sp(9, 3), sp(open, 0), sp(open, open-1),
		sp(0, open+1), sp(3, open+1), sp(open, open+1), sp(open+1, open+1), sp(-1, -1),
		sp(math.MinInt64, math.MaxInt64), sp(0, math.MaxInt64), sp(math.MinInt64, 5), sp(math.MaxInt64, math.MinInt64),
	}
}

// empty is spans that are right, and have no byte.
func empty() []api.Span {
	return []api.Span{none, sp(1, 1), sp(4, 4), sp(open-1, open-1), sp(open, open)}
}

// run is a run and what is told of it.
type run[V comparable] struct {
	span api.Span
	told V
}

// gather goes through all that a function tells.
func gather[V comparable](each func(func(api.Span, V) bool)) []run[V] {
	var l []run[V]
	for s, v := range each {
		l = append(l, run[V]{s, v})
	}
	return l
}

// shown is runs of texts in one text: 3-9 a,12- b.
func shown(l []run[string]) string {
	var texts []string
	for _, x := range l {
		texts = append(texts, span.Text(x.span)+" "+x.told)
	}
	return strings.Join(texts, ",")
}

// made is the map of a text as shown tells it.
func made(t *testing.T, text string) *imap.Map[string] {
	t.Helper()
	m := imap.New[string]()
	for piece := range strings.SplitSeq(text, ",") {
		first, told, some := strings.Cut(piece, " ")
		s, e := span.Parse(first)
		if some && (e != api.OK || m.Put(s, told) != api.OK) {
			t.Fatal(text)
		}
	}
	return m
}

// want holds a map's runs against a text, in all ways by which they are told.
func want(t *testing.T, what string, m *imap.Map[string], text string) {
	t.Helper()
	l := gather(m.All())
	if shown(l) != text {
		t.Errorf("%s: %s, not %s", what, shown(l), text)
	}
	if in := gather(m.In(sp(0, open))); !slices.Equal(in, l) || m.Len() != len(l) {
		t.Errorf("%s: in %s, len %d", what, shown(in), m.Len())
	}
	for _, x := range l {
		for _, at := range []int64{x.span.From, x.span.To - 1} {
			if told, s, ok := m.Get(at); told != x.told || s != x.span || !ok {
				t.Errorf("%s: get %d: %s %v %v", what, at, told, s, ok)
			}
		}
	}
}

// A model of small maps, apart from the package: item i is what is told of byte i, the last one of all from there on; 0: nothing.
const tail = 4

type model [tail + 1]int

// models is all of them, with up to two things told.
func models() []model {
	l := []model{{}}
	for i := range tail + 1 {
		for _, x := range slices.Clone(l) {
			for told := 1; told <= 2; told++ {
				x[i] = told
				l = append(l, x)
			}
		}
	}
	return l
}

// ends is where the model's spans begin and end.
func ends() []int64 { return []int64{0, 1, 2, 3, 4, open} }

// spans is all spans of the model that aren't empty.
func spans() []api.Span {
	var l []api.Span
	for i, from := range ends() {
		for _, to := range ends()[i+1:] {
			l = append(l, sp(from, to))
		}
	}
	return l
}

// at is what is told of any byte.
func (x model) at(at int64) int {
	if at < 0 || at >= open {
		return 0
	}
	return x[min(at, tail)]
}

// with is the model with something told of a span.
func (x model) with(s api.Span, told int) model {
	for i := range x {
		if s.From <= int64(i) && int64(i) < s.To {
			x[i] = told
		}
	}
	return x
}

// runs is its runs within a span.
func (x model) runs(s api.Span) []run[int] {
	var l []run[int]
	for i, told := range x.with(sp(0, s.From), 0).with(sp(s.To, open), 0) {
		from, to := ends()[i], ends()[i+1]
		if last := len(l) - 1; told > 0 && last >= 0 && l[last].span.To == from && l[last].told == told {
			l[last].span.To = to
		} else if told > 0 {
			l = append(l, run[int]{sp(from, to), told})
		}
	}
	return l
}

// of is the spans of which one of some things is told.
func (x model) of(some ...int) []api.Span {
	for i := range x {
		if slices.Contains(some, x[i]) {
			x[i] = 1
		} else {
			x[i] = 0
		}
	}
	var l []api.Span
	for _, r := range x.runs(sp(0, open)) {
		l = append(l, r.span)
	}
	return l
}

// build makes a model's map byte by byte, so that runs grow from neighbours that touch.
func (x model) build(t *testing.T) *imap.Map[int] {
	t.Helper()
	m := imap.New[int]()
	for i, told := range x {
		if told > 0 && m.Put(sp(ends()[i], ends()[i+1]), told) != api.OK {
			t.Fatal(x)
		}
	}
	return m
}

// holds is whether a map's runs are the model's.
func (x model) holds(m *imap.Map[int]) bool {
	return slices.Equal(gather(m.All()), x.runs(sp(0, open)))
}

// Put

func TestPut(t *testing.T) {
	for _, c := range []struct {
		ahead string
		s     api.Span
		v     string
		want  string
	}{
		{"", sp(3, 9), "a", "3-9 a"}, {"", sp(0, 1), "a", "0-1 a"}, {"", sp(0, open), "a", "0- a"}, {"", sp(open-1, open), "a", "4611686018427387903- a"},
		{"", sp(0, open-1), "a", "0-4611686018427387903 a"}, {"", sp(1<<40, 1<<41), "a", "1099511627776-2199023255552 a"}, {"", sp(3, 9), "", "3-9 "},
		// apart from a run
		{"3-9 a", sp(0, 2), "a", "0-2 a,3-9 a"}, {"3-9 a", sp(10, 12), "a", "3-9 a,10-12 a"}, {"3-9 a", sp(10, open), "b", "3-9 a,10- b"},
		// beside it
		{"3-9 a", sp(0, 3), "a", "0-9 a"}, {"3-9 a", sp(9, 12), "a", "3-12 a"}, {"3-9 a", sp(9, open), "a", "3- a"},
		{"3-9 a", sp(0, 3), "b", "0-3 b,3-9 a"}, {"3-9 a", sp(9, 12), "b", "3-9 a,9-12 b"}, {"3-9 a", sp(9, open), "b", "3-9 a,9- b"},
		{"0-3 a,5-9 a", sp(3, 5), "a", "0-9 a"}, {"0-3 a,5-9 a", sp(3, 5), "b", "0-3 a,3-5 b,5-9 a"},
		{"0-3 a,5-9 b", sp(3, 5), "a", "0-5 a,5-9 b"}, {"0-3 a,5-9 b", sp(3, 5), "b", "0-3 a,3-9 b"}, {"0-3 a,5-9 b", sp(3, 5), "c", "0-3 a,3-5 c,5-9 b"},
		{"0-3 a,5-9 a", sp(3, 4), "a", "0-4 a,5-9 a"}, {"0-3 a,5-9 a", sp(4, 5), "a", "0-3 a,4-9 a"},
		// within it
		{"3-9 a", sp(5, 7), "b", "3-5 a,5-7 b,7-9 a"}, {"3-9 a", sp(3, 5), "b", "3-5 b,5-9 a"}, {"3-9 a", sp(7, 9), "b", "3-7 a,7-9 b"},
		{"3-9 a", sp(5, 7), "a", "3-9 a"}, {"3-9 a", sp(3, 5), "a", "3-9 a"}, {"3-9 a", sp(7, 9), "a", "3-9 a"}, {"3-9 a", sp(3, 9), "a", "3-9 a"},
		{"3- a", sp(5, 7), "b", "3-5 a,5-7 b,7- a"}, {"3- a", sp(5, open), "b", "3-5 a,5- b"}, {"3- a", sp(5, open), "a", "3- a"}, {"0- a", sp(open-1, open), "b", "0-4611686018427387903 a,4611686018427387903- b"},
		{"3-5 a,5-7 b,7-9 a", sp(5, 7), "a", "3-9 a"},
		// over it, and across its ends
		{"3-9 a", sp(3, 9), "b", "3-9 b"}, {"3-9 a", sp(2, 10), "b", "2-10 b"}, {"3-9 a", sp(0, open), "b", "0- b"}, {"3-9 a", sp(2, 10), "a", "2-10 a"},
		{"3-9 a", sp(0, 5), "b", "0-5 b,5-9 a"}, {"3-9 a", sp(7, 12), "b", "3-7 a,7-12 b"}, {"3-9 a", sp(0, 5), "a", "0-9 a"}, {"3-9 a", sp(7, 12), "a", "3-12 a"},
		{"3- a", sp(0, 5), "b", "0-5 b,5- a"}, {"3-9 a", sp(7, open), "b", "3-7 a,7- b"},
		// across several
		{"0-3 a,3-6 b,6-9 a", sp(2, 7), "c", "0-2 a,2-7 c,7-9 a"}, {"0-3 a,3-6 b,6-9 a", sp(2, 7), "a", "0-9 a"}, {"0-3 a,3-6 b,6-9 a", sp(2, 7), "b", "0-2 a,2-7 b,7-9 a"},
		{"0-3 a,3-6 b,6-9 a", sp(3, 6), "a", "0-9 a"}, {"0-3 a,3-6 b,6-9 c", sp(0, 6), "c", "0-9 c"}, {"0-3 a,3-6 b,6-9 c", sp(3, 9), "a", "0-9 a"},
		{"0-1 a,2-3 b,4-5 c,6-7 d", sp(1, 6), "e", "0-1 a,1-6 e,6-7 d"}, {"0-1 a,2-3 b,4-5 c,6-7 a", sp(1, 6), "a", "0-7 a"}, {"0-1 a,2-3 b,4-5 c,6- d", sp(0, open), "d", "0- d"},
		{"0-2 a,3-5 b,9- c", sp(1, 20), "d", "0-1 a,1-20 d,20- c"}, {"0-2 a,3-5 b,9- c", sp(4, open), "b", "0-2 a,3- b"},
	} {
		m := made(t, c.ahead)
		if e := m.Put(c.s, c.v); e != api.OK {
			t.Error(c, e)
		}
		want(t, c.ahead+" put "+span.Text(c.s)+" "+c.v, m, c.want)
	}
}

func TestPutOfSmallMaps(t *testing.T) {
	for _, x := range models() {
		m := x.build(t)
		if !x.holds(m) {
			t.Fatal(x, gather(m.All()))
		}
		for _, s := range spans() {
			for told := 1; told <= 3; told++ {
				c := x.build(t)
				if e := c.Put(s, told); e != api.OK || !x.with(s, told).holds(c) {
					t.Error(x, s, told, e, gather(c.All()))
				}
			}
		}
	}
}

func TestPutIsRefused(t *testing.T) {
	for _, text := range []string{"", "3-9 a", "0- a", "0-1 a,1-4 b,4- a"} {
		for _, s := range append(wrong(), empty()...) {
			for _, v := range []string{"", "a", "b"} {
				m := made(t, text)
				if e := m.Put(s, v); e != api.ErrArg {
					t.Error(text, s, v, e)
				}
				want(t, "refused", m, text)
			}
		}
	}
}

// Drop

func TestDrop(t *testing.T) {
	for _, c := range []struct {
		ahead string
		s     api.Span
		want  string
	}{
		{"", sp(3, 9), ""}, {"", sp(0, open), ""},
		// ahead of, and behind
		{"3-9 a", sp(0, 2), "3-9 a"}, {"3-9 a", sp(0, 3), "3-9 a"}, {"3-9 a", sp(9, 12), "3-9 a"}, {"3-9 a", sp(10, 12), "3-9 a"}, {"3-9 a", sp(9, open), "3-9 a"},
		{"0-3 a,5-9 b", sp(3, 5), "0-3 a,5-9 b"}, {"0-3 a,6-9 b", sp(4, 5), "0-3 a,6-9 b"},
		// within
		{"3-9 a", sp(5, 7), "3-5 a,7-9 a"}, {"3-9 a", sp(3, 5), "5-9 a"}, {"3-9 a", sp(7, 9), "3-7 a"}, {"3-9 a", sp(3, 9), ""},
		{"3- a", sp(5, 7), "3-5 a,7- a"}, {"3- a", sp(5, open), "3-5 a"}, {"3- a", sp(3, open), ""}, {"0- a", sp(open-1, open), "0-4611686018427387903 a"}, {"0- a", sp(0, open-1), "4611686018427387903- a"},
		// across
		{"3-9 a", sp(0, 5), "5-9 a"}, {"3-9 a", sp(7, 12), "3-7 a"}, {"3-9 a", sp(2, 10), ""}, {"3-9 a", sp(0, open), ""}, {"3-9 a", sp(8, open), "3-8 a"},
		{"0-3 a,3-6 b,6-9 c", sp(2, 7), "0-2 a,7-9 c"}, {"0-3 a,3-6 b,6-9 c", sp(3, 6), "0-3 a,6-9 c"}, {"0-3 a,3-6 b,6-9 c", sp(3, 7), "0-3 a,7-9 c"}, {"0-3 a,3-6 b,6-9 c", sp(2, 6), "0-2 a,6-9 c"},
		{"0-1 a,2-3 b,4-5 c,6-7 d", sp(1, 6), "0-1 a,6-7 d"}, {"0-1 a,2-3 b,4-5 c,6- d", sp(0, open), ""}, {"0-1 a,2-3 b,4-5 c,6- d", sp(0, 20), "20- d"},
	} {
		m := made(t, c.ahead)
		m.Drop(c.s)
		want(t, c.ahead+" drop "+span.Text(c.s), m, c.want)
	}
}

func TestDropOfSmallMaps(t *testing.T) {
	for _, x := range models() {
		for _, s := range spans() {
			m := x.build(t)
			m.Drop(s)
			if !x.with(s, 0).holds(m) {
				t.Error(x, s, gather(m.All()))
			}
		}
	}
}

func TestDropOfWhatIsWrongOrEmpty(t *testing.T) {
	for _, text := range []string{"", "3-9 a", "0- a", "0-1 a,1-4 b,4- a"} {
		for _, s := range append(wrong(), empty()...) {
			m := made(t, text)
			m.Drop(s)
			want(t, "nothing to drop", m, text)
		}
	}
}

// Get

func TestGet(t *testing.T) {
	m := made(t, "3-5 a,5-7 b,9-12 a,20- c")
	for _, c := range []struct {
		at   int64
		told string
		s    api.Span
		ok   bool
	}{
		{math.MinInt64, "", none, false}, {-1, "", none, false}, {0, "", none, false}, {2, "", none, false},
		{3, "a", sp(3, 5), true}, {4, "a", sp(3, 5), true}, {5, "b", sp(5, 7), true}, {6, "b", sp(5, 7), true},
		{7, "", none, false}, {8, "", none, false}, {9, "a", sp(9, 12), true}, {11, "a", sp(9, 12), true}, {12, "", none, false}, {19, "", none, false},
		{20, "c", sp(20, open), true}, {1 << 40, "c", sp(20, open), true}, {open - 1, "c", sp(20, open), true},
		{open, "", none, false}, {open + 1, "", none, false}, {math.MaxInt64, "", none, false},
	} {
		if told, s, ok := m.Get(c.at); told != c.told || s != c.s || ok != c.ok {
			t.Error(c, told, s, ok)
		}
	}
}

func TestGetOfSmallMaps(t *testing.T) {
	for _, x := range models() {
		m := x.build(t)
		for _, at := range []int64{math.MinInt64, -1, 0, 1, 2, 3, 4, 5, 1 << 40, open - 1, open, open + 1, math.MaxInt64} {
			around := none
			for _, r := range x.runs(sp(0, open)) {
				if span.Has(r.span, at) {
					around = r.span
				}
			}
			if told, s, ok := m.Get(at); told != x.at(at) || s != around || ok != (told > 0) {
				t.Error(x, at, told, s, ok)
			}
		}
	}
}

// All, In

func TestIn(t *testing.T) {
	m := made(t, "3-5 a,5-7 b,9-12 a,20- c")
	for _, c := range []struct {
		s    api.Span
		want string
	}{
		{sp(0, open), "3-5 a,5-7 b,9-12 a,20- c"}, {sp(3, 21), "3-5 a,5-7 b,9-12 a,20-21 c"}, {sp(4, 10), "4-5 a,5-7 b,9-10 a"},
		{sp(0, 3), ""}, {sp(0, 4), "3-4 a"}, {sp(3, 5), "3-5 a"}, {sp(4, 5), "4-5 a"}, {sp(4, 6), "4-5 a,5-6 b"}, {sp(5, 7), "5-7 b"}, {sp(7, 9), ""}, {sp(6, 9), "6-7 b"}, {sp(7, 10), "9-10 a"},
		{sp(10, 11), "10-11 a"}, {sp(12, 20), ""}, {sp(12, 21), "20-21 c"}, {sp(11, 20), "11-12 a"}, {sp(30, 40), "30-40 c"}, {sp(30, open), "30- c"}, {sp(open-1, open), "4611686018427387903- c"},
	} {
		if got := shown(gather(m.In(c.s))); got != c.want {
			t.Errorf("in %s: %s, not %s", span.Text(c.s), got, c.want)
		}
	}
	for _, s := range append(wrong(), empty()...) {
		if got := gather(m.In(s)); len(got) != 0 {
			t.Error(s, shown(got))
		}
	}
	want(t, "untouched", m, "3-5 a,5-7 b,9-12 a,20- c")
}

func TestInOfSmallMaps(t *testing.T) {
	for _, x := range models() {
		m := x.build(t)
		for _, s := range spans() {
			if got := gather(m.In(s)); !slices.Equal(got, x.runs(s)) {
				t.Error(x, s, got)
			}
		}
	}
}

func TestAllAndInAreStoppedEarly(t *testing.T) {
	m := made(t, "0-2 a,2-4 b,5-6 a,8- c")
	for _, c := range []struct {
		each func(func(api.Span, string) bool)
		want []string
	}{
		{m.All(), []string{"0-2 a", "2-4 b", "5-6 a", "8- c"}}, {m.In(sp(1, 9)), []string{"1-2 a", "2-4 b", "5-6 a", "8-9 c"}},
	} {
		for most := 1; most <= len(c.want); most++ {
			var got []string
			c.each(func(s api.Span, v string) bool {
				got = append(got, span.Text(s)+" "+v)
				return len(got) < most
			})
			if !slices.Equal(got, c.want[:most]) {
				t.Error(most, got)
			}
		}
		for range 2 { // one that was stopped goes through all of it again
			if got := shown(gather(c.each)); got != strings.Join(c.want, ",") {
				t.Error(got)
			}
		}
	}
	for s, v := range m.All() {
		if s != sp(0, 2) || v != "a" {
			t.Error(s, v)
		}
		break
	}
}

// What is put and dropped while one goes through a map: the one who began ahead of it is told of nothing.
func TestAllAndInWhileTheMapIsWrittenTo(t *testing.T) {
	const text = "0-2 a,2-4 b,5-6 a,8-9 c,20- d"
	for name, write := range map[string]func(m *imap.Map[string], s api.Span){
		"over":   func(m *imap.Map[string], s api.Span) { m.Put(s, "z") },
		"whole":  func(m *imap.Map[string], s api.Span) { m.Put(sp(0, open), "z") },
		"ahead":  func(m *imap.Map[string], s api.Span) { m.Put(sp(0, 3), "b") },
		"behind": func(m *imap.Map[string], s api.Span) { m.Put(sp(s.To-1, s.To+3), "y") },
		"fill":   func(m *imap.Map[string], s api.Span) { m.Put(sp(4, 20), "a") },
		"drop":   func(m *imap.Map[string], s api.Span) { m.Drop(s) },
		"rest":   func(m *imap.Map[string], s api.Span) { m.Drop(sp(s.From, open)) },
		"empty":  func(m *imap.Map[string], s api.Span) { m.Drop(sp(0, open)) },
		"split":  func(m *imap.Map[string], s api.Span) { m.Drop(sp(25, 26)); m.Put(sp(30, 31), "y") },
	} {
		m := made(t, text)
		var got []run[string]
		for s, v := range m.All() {
			got = append(got, run[string]{s, v})
			write(m, s)
		}
		if shown(got) != text {
			t.Error("all", name, shown(got))
		}
		m, got = made(t, text), nil
		for s, v := range m.In(sp(1, 21)) {
			got = append(got, run[string]{s, v})
			write(m, s)
		}
		if shown(got) != "1-2 a,2-4 b,5-6 a,8-9 c,20-21 d" {
			t.Error("in", name, shown(got))
		}
	}
}

// It is the call that counts, not the first step.
func TestAllAndInAreAsOfTheirCall(t *testing.T) {
	m := made(t, "3-9 a")
	all, in, drop := m.All(), m.In(sp(4, 6)), made(t, "")
	nothing, nowhere := drop.All(), drop.In(sp(0, open))
	for i := int64(0); i < 50; i++ {
		m.Put(sp(i, i+1), strconv.FormatInt(i, 10))
		drop.Put(sp(2*i, 2*i+1), "x")
	}
	m.Drop(sp(5, 20))
	if shown(gather(all)) != "3-9 a" || shown(gather(in)) != "4-6 a" || len(gather(nothing)) != 0 || len(gather(nowhere)) != 0 {
		t.Error(shown(gather(all)), shown(gather(in)), shown(gather(nothing)), shown(gather(nowhere)))
	}
	if later := gather(m.All()); len(later) != 35 || later[0] != (run[string]{sp(0, 1), "0"}) {
		t.Error(shown(later))
	}
}

// Of, Known, Len

func TestOfKnownAndLen(t *testing.T) {
	m := made(t, "3-5 a,5-7 b,7-8 a,9-12 a,20- c")
	for told, text := range map[string]string{"a": "3-5,7-8,9-12", "b": "5-7", "c": "20-", "d": "none", "": "none", "A": "none"} {
		if got := m.Of(told).Text(); got != text {
			t.Error(told, got)
		}
	}
	if m.Known().Text() != "3-8,9-12,20-" || m.Len() != 5 {
		t.Error(m.Known().Text(), m.Len())
	}
	m.Put(sp(30, 31), "")
	if m.Of("").Text() != "30-31" || m.Known().Text() != "3-8,9-12,20-" || m.Len() != 7 {
		t.Error(m.Of("").Text(), m.Known().Text(), m.Len())
	}
}

func TestOfKnownAndLenOfSmallMaps(t *testing.T) {
	for _, x := range models() {
		m := x.build(t)
		for told := 1; told <= 3; told++ {
			if got := m.Of(told).Spans(); !slices.Equal(got, x.of(told)) {
				t.Error(x, told, got)
			}
		}
		if got := m.Of(0).Spans(); len(got) != 0 {
			t.Error(x, got)
		}
		if got := m.Known().Spans(); !slices.Equal(got, x.of(1, 2)) || m.Len() != len(x.runs(sp(0, open))) {
			t.Error(x, got, m.Len())
		}
	}
}

// A set that was made of a map stays as it was.
func TestSetsStay(t *testing.T) {
	m := made(t, "3-5 a,5-7 b,9- a")
	of, known := m.Of("a"), m.Known()
	m.Put(sp(0, 20), "b")
	m.Drop(sp(30, open))
	if of.Text() != "3-5,9-" || known.Text() != "3-7,9-" {
		t.Error(of.Text(), known.Text())
	}
}

// New, Clone, a zero map, a nil one

func TestClone(t *testing.T) {
	const text = "3-5 a,5-7 b,9-12 a,20- c"
	for name, write := range map[string]func(m *imap.Map[string]){
		"over":   func(m *imap.Map[string]) { m.Put(sp(3, 5), "z") },
		"join":   func(m *imap.Map[string]) { m.Put(sp(5, 9), "a") },
		"behind": func(m *imap.Map[string]) { m.Put(sp(15, 16), "z"); m.Put(sp(30, open), "y") },
		"within": func(m *imap.Map[string]) { m.Put(sp(25, 26), "z"); m.Drop(sp(10, 11)) },
		"drop":   func(m *imap.Map[string]) { m.Drop(sp(4, 21)) },
		"empty":  func(m *imap.Map[string]) { m.Drop(sp(0, open)); m.Put(sp(1, 2), "z") },
	} {
		m, apart := made(t, text), made(t, text)
		write(apart)
		written := shown(gather(apart.All()))
		c := m.Clone()
		want(t, name, c, text)
		write(c)
		want(t, name+": the clone", c, written)
		want(t, name+": its map", m, text)
		c = m.Clone()
		write(m)
		want(t, name+": the map", m, written)
		want(t, name+": its clone", c, text)
		d := c.Clone()
		write(c)
		want(t, name+": clone of a clone", d, text)
	}
	if c := imap.New[int]().Clone(); c == nil || c.Len() != 0 || c.Put(sp(1, 2), 3) != api.OK {
		t.Error("a clone of what tells nothing")
	}
}

// Clones that grow at their ends don't come across each other.
func TestClonesGrowApart(t *testing.T) {
	m := imap.New[int64]()
	for i := range int64(9) {
		m.Put(sp(2*i, 2*i+1), i)
	}
	a, b := m.Clone(), m.Clone()
	m.Put(sp(40, 41), 40)
	a.Put(sp(50, 51), 50)
	b.Put(sp(60, 61), 60)
	if m.Known().Text() != "0-1,2-3,4-5,6-7,8-9,10-11,12-13,14-15,16-17,40-41" || a.Len() != 10 || b.Len() != 10 {
		t.Error(m.Known().Text(), a.Len(), b.Len())
	}
	for c, at := range map[*imap.Map[int64]]int64{m: 40, a: 50, b: 60} {
		for _, x := range []int64{40, 50, 60} {
			if told, _, ok := c.Get(x); ok != (x == at) || ok && told != at {
				t.Error(at, x, told, ok)
			}
		}
	}
}

func tellsNothing(t *testing.T, what string, m *imap.Map[string]) {
	t.Helper()
	for _, at := range []int64{math.MinInt64, -1, 0, 5, open - 1, open, math.MaxInt64} {
		if told, s, ok := m.Get(at); told != "" || s != none || ok {
			t.Error(what, at, told, s, ok)
		}
	}
	for _, s := range append(append(wrong(), empty()...), sp(0, open), sp(3, 9)) {
		m.Drop(s)
		if l := gather(m.In(s)); len(l) != 0 {
			t.Error(what, s, l)
		}
	}
	if l := gather(m.All()); len(l) != 0 || m.Len() != 0 {
		t.Error(what, l, m.Len())
	}
	if m.Of("").Text() != "none" || m.Of("a").Text() != "none" || m.Known().Text() != "none" {
		t.Error(what, m.Of("").Text(), m.Of("a").Text(), m.Known().Text())
	}
}

func TestMapsThatTellNothing(t *testing.T) {
	var zero imap.Map[string]
	fresh := imap.New[string]()
	dropped := imap.New[string]()
	dropped.Put(sp(3, open), "a")
	dropped.Drop(sp(0, open))
	if fresh == nil || fresh == imap.New[string]() {
		t.Fatal("new")
	}
	for what, m := range map[string]*imap.Map[string]{"new": fresh, "zero": &zero, "dropped": dropped} {
		tellsNothing(t, what, m)
		if c := m.Clone(); c == nil || c == m {
			t.Error(what, "clone")
		} else {
			tellsNothing(t, what+"'s clone", c)
		}
		if e := m.Put(sp(3, 9), "a"); e != api.OK {
			t.Error(what, e)
		}
		want(t, what, m, "3-9 a")
	}
}

func TestNilMap(t *testing.T) {
	var m *imap.Map[string]
	tellsNothing(t, "nil", m)
	for _, s := range append(append(wrong(), empty()...), sp(0, open), sp(3, 9)) { // that it is nil is asked first
		if e := m.Put(s, "a"); e != api.ErrNone {
			t.Error(s, e)
		}
	}
	tellsNothing(t, "nil, put to", m)
	if m.Clone() != nil {
		t.Error("clone")
	}
}

// P3.2

// A long row of writes, held against each byte's last one.
func TestTheLastWriteCounts(t *testing.T) {
	const bytes = 60 // and one item for all from there on
	var last [bytes + 1]int
	m := imap.New[int]()
	state := uint64(1)
	draw := func(n int) int { // always the same row: none of it is left to chance
		state = state*6364136223846793005 + 1442695040888963407
		return int(state>>33) % n
	}
	for step := range 20000 {
		from := draw(bytes + 1)
		to := min(from+1+draw(12), bytes+1)
		told := draw(4) // 0: dropped
		s := sp(int64(from), int64(to))
		if to > bytes {
			s.To = open
		}
		if told == 0 {
			m.Drop(s)
		} else if e := m.Put(s, told); e != api.OK {
			t.Fatal(step, s, e)
		}
		for i := from; i < to; i++ {
			last[i] = told
		}
		runs := 0
		for i, told := range last {
			got, around, ok := m.Get(int64(i))
			if got != told || ok != (told > 0) || ok != span.Has(around, int64(i)) {
				t.Fatal(step, i, got, around, told)
			}
			if told > 0 && (i == 0 || last[i-1] != told) {
				runs++
			}
		}
		if m.Len() != runs {
			t.Fatal(step, m.Len(), runs)
		}
		touching(t, gather(m.All()))
	}
}

// touching holds neighbours against each other: they rise, don't meet, and tell unlike things if they touch.
func touching(t *testing.T, l []run[int]) {
	t.Helper()
	for i, x := range l {
		if span.Len(x.span) == 0 {
			t.Fatal(l)
		}
		if i > 0 && (l[i-1].span.To > x.span.From || l[i-1].span.To == x.span.From && l[i-1].told == x.told) {
			t.Fatal(l)
		}
	}
}

func TestExample(t *testing.T) {
	m := imap.New[int]()
	m.Put(sp(3, 9), 1)
	m.Put(sp(5, 7), 2)
	if l := gather(m.All()); !slices.Equal(l, []run[int]{{sp(3, 5), 1}, {sp(5, 7), 2}, {sp(7, 9), 1}}) {
		t.Error(l)
	}
	m.Put(sp(5, 7), 1)
	if l := gather(m.All()); !slices.Equal(l, []run[int]{{sp(3, 9), 1}}) {
		t.Error(l)
	}
}

// What is told may be of any kind

type pair struct {
	name string
	at   [2]int64
}

func TestKindsOfWhatIsTold(t *testing.T) {
	m := imap.New[pair]()
	m.Put(sp(0, 4), pair{"a", [2]int64{1, 2}})
	m.Put(sp(4, 6), pair{"a", [2]int64{1, 2}})
	m.Put(sp(6, 8), pair{"a", [2]int64{1, 3}})
	if m.Len() != 2 || m.Of(pair{"a", [2]int64{1, 2}}).Text() != "0-6" {
		t.Error(gather(m.All()))
	}
	told, s, ok := m.Get(8)
	if told != (pair{}) || s != none || ok {
		t.Error(told, s, ok)
	}
	b := imap.New[bool]()
	b.Put(sp(0, 4), false) // a zero value is something that is told
	b.Put(sp(4, open), true)
	if told, s, ok := b.Get(1); told || s != sp(0, 4) || !ok || b.Of(false).Text() != "0-4" || b.Len() != 2 {
		t.Error(told, s, ok)
	}
	u := imap.New[struct{}]()
	u.Put(sp(0, 4), struct{}{})
	u.Put(sp(4, open), struct{}{})
	if u.Len() != 1 || u.Known().Text() != "0-" {
		t.Error(gather(u.All()))
	}
}

// What isn't even like itself joins with nothing, and no call panics of it.
func TestWhatIsUnlikeItself(t *testing.T) {
	f := imap.New[float64]()
	f.Put(sp(0, 4), math.NaN())
	f.Put(sp(4, 6), math.NaN())
	f.Put(sp(9, 10), 1)
	if f.Len() != 3 || f.Known().Text() != "0-6,9-10" || f.Of(math.NaN()).Text() != "none" || f.Of(1).Text() != "9-10" {
		t.Error(gather(f.All()))
	}
	a := imap.New[any]()
	for _, s := range []api.Span{sp(0, 4), sp(4, 6), sp(8, 9), sp(6, 8)} {
		if e := a.Put(s, []int{1}); e != api.OK {
			t.Error(s, e)
		}
	}
	a.Put(sp(9, 12), 1)
	a.Put(sp(12, 13), 1)
	a.Put(sp(13, 14), nil)
	a.Put(sp(14, 15), nil)
	a.Drop(sp(1, 2))
	told := a.Known()
	if told.Text() != "0-1,2-15" || a.Of([]int{1}).Text() != "none" || a.Of(1).Text() != "9-13" || a.Of(nil).Text() != "13-15" || a.Len() != 7 {
		t.Error(told.Text(), a.Len())
	}
	if v, s, ok := a.Get(3); v.([]int)[0] != 1 || s != sp(2, 4) || !ok {
		t.Error(v, s, ok)
	}
}
