package ranges_test

import (
	"math"
	"regexp"
	"slices"
	"strconv"
	"strings"
	"testing"

	"mandoline/api"
	"mandoline/ranges"
	"mandoline/span"
)

const open = api.Open

var none api.Span

func sp(from, to int64) api.Span { return api.Span{From: from, To: to} }

// want holds a set against its text, in all the ways by which its spans are told.
func want(t *testing.T, what string, s ranges.Set, text string) {
	t.Helper()
	if got := s.Text(); got != text {
		t.Errorf("%s: %.80s, not %.80s", what, got, text)
	}
	told := "none"
	for i, x := range s.Spans() {
		if i == 0 {
			told = span.Text(x)
		} else {
			told += "," + span.Text(x)
		}
	}
	if told != text || !slices.Equal(slices.Collect(s.All()), s.Spans()) {
		t.Errorf("%s: spans %v", what, s.Spans())
	}
}

// wrong is spans that aren't right: below 0, upside down, or beyond Open.
func wrong() []api.Span {
	return []api.Span{
		sp(-1, 0), sp(-1, 5), sp(-3, -1), sp(-1, open), sp(1, 0), sp(9, 3), sp(open, 0), sp(open, open-1),
		sp(0, open+1), sp(3, open+1), sp(open, open+1), sp(open+1, open+1),
		sp(math.MinInt64, math.MaxInt64), sp(0, math.MaxInt64), sp(math.MinInt64, 5), sp(math.MaxInt64, math.MinInt64),
	}
}

// A model of small sets, apart from the package: bit i of a number stands for byte i, the highest one for all from there on.
const (
	tail = 6
	all  = 1<<(tail+1) - 1
)

// runs is the fewest spans of a number's bytes.
func runs(bits int) []api.Span {
	var l []api.Span
	for i := 0; i <= tail; i++ {
		if bits>>i&1 == 0 {
			continue
		}
		to := int64(i + 1)
		if i == tail {
			to = open
		}
		if i > 0 && bits>>(i-1)&1 == 1 {
			l[len(l)-1].To = to
		} else {
			l = append(l, sp(int64(i), to))
		}
	}
	return l
}

// small is all sets of the model, by their numbers.
func small() []ranges.Set {
	var l []ranges.Set
	for bits := 0; bits <= all; bits++ {
		l = append(l, ranges.Of(runs(bits)...))
	}
	return l
}

// has is whether a byte is in the model's set.
func has(bits int, at int64) bool {
	return at >= 0 && at < open && bits>>min(at, tail)&1 == 1
}

// places is bytes in, at and beside all the ends of the model's sets.
func places() []int64 {
	return []int64{math.MinInt64, -2, -1, 0, 1, 2, 3, 4, 5, 6, 7, 8, 1 << 40, open - 2, open - 1, open, open + 1, math.MaxInt64}
}

// Of, Spans, All

func TestOf(t *testing.T) {
	for _, c := range []struct {
		l    []api.Span
		want string
	}{
		{nil, "none"}, {[]api.Span{}, "none"},
		{[]api.Span{sp(3, 9)}, "3-9"},
		{[]api.Span{sp(9, open), sp(4, 6), sp(0, 4)}, "0-6,9-"},
		{[]api.Span{sp(0, 4), sp(5, 6)}, "0-4,5-6"},
		{[]api.Span{sp(5, 6), sp(0, 4)}, "0-4,5-6"},
		{[]api.Span{sp(0, 5), sp(3, 9)}, "0-9"},
		{[]api.Span{sp(3, 9), sp(0, 5)}, "0-9"},
		{[]api.Span{sp(0, 9), sp(3, 5)}, "0-9"},
		{[]api.Span{sp(0, 9), sp(3, 5), sp(8, 10)}, "0-10"},
		{[]api.Span{sp(0, 9), sp(0, 2)}, "0-9"},
		{[]api.Span{sp(0, 2), sp(0, 9)}, "0-9"},
		{[]api.Span{sp(3, 9), sp(3, 9), sp(3, 9)}, "3-9"},
		{[]api.Span{sp(1, 2), sp(3, 4), sp(5, 6), sp(2, 3)}, "1-4,5-6"},
		{[]api.Span{sp(3, 3)}, "none"}, {[]api.Span{none}, "none"}, {[]api.Span{sp(open, open)}, "none"},
		{[]api.Span{sp(0, 2), sp(3, 3), sp(4, 5)}, "0-2,4-5"},
		{[]api.Span{sp(0, 3), sp(3, 3), sp(4, 5)}, "0-3,4-5"},
		{[]api.Span{sp(0, open)}, "0-"}, {[]api.Span{sp(open-1, open)}, "4611686018427387903-"},
		{[]api.Span{sp(0, 3), sp(open-1, open)}, "0-3,4611686018427387903-"},
		{[]api.Span{sp(0, open-1)}, "0-4611686018427387903"}, {[]api.Span{sp(0, open-1), sp(open-1, open)}, "0-"},
		{[]api.Span{sp(5, open), sp(3, open)}, "3-"}, {[]api.Span{sp(5, open), sp(7, 9)}, "5-"}, {[]api.Span{sp(5, open), sp(2, 5)}, "2-"},
		{wrong(), "none"}, {append(wrong(), sp(2, 3)), "2-3"}, {append([]api.Span{sp(2, 3)}, wrong()...), "2-3"},
	} {
		want(t, "of", ranges.Of(c.l...), c.want)
	}
	want(t, "zero", ranges.Set{}, "none")
	want(t, "of none", ranges.Of(), "none")
}

// Whatever lists of spans say, wrong and empty ones too, in any order: the bytes are theirs, and the spans the fewest.
func TestOfAnyList(t *testing.T) {
	ends := []int64{-1, 0, 1, 2, 4, 6, open, open + 1}
	var spans []api.Span
	for _, from := range ends {
		for _, to := range ends {
			spans = append(spans, sp(from, to))
		}
	}
	for _, a := range spans {
		for _, b := range spans {
			for _, c := range []api.Span{sp(1, 2), sp(3, 4), sp(0, 5), sp(5, open), sp(6, 3)} {
				bits := 0
				for at := int64(0); at <= tail; at++ {
					if span.Has(a, at) || span.Has(b, at) || span.Has(c, at) {
						bits |= 1 << at
					}
				}
				if got := ranges.Of(a, b, c).Spans(); !slices.Equal(got, runs(bits)) {
					t.Fatal(a, b, c, got)
				}
			}
		}
	}
}

func TestSpansAndAll(t *testing.T) {
	for bits, s := range small() {
		if got := s.Spans(); !slices.Equal(got, runs(bits)) {
			t.Error(bits, got)
		}
		if got := slices.Collect(s.All()); !slices.Equal(got, runs(bits)) {
			t.Error(bits, got)
		}
	}
	if len(ranges.Set{}.Spans()) != 0 {
		t.Error("the zero set's spans")
	}
	for x := range (ranges.Set{}).All() {
		t.Error("the zero set told", x)
	}
}

func TestAllIsToldAsLongAsItIsAskedFor(t *testing.T) {
	l := []api.Span{sp(0, 1), sp(2, 3), sp(4, 5), sp(6, open)}
	each := ranges.Of(l...).All()
	for most := 1; most <= len(l); most++ {
		var got []api.Span
		each(func(x api.Span) bool {
			got = append(got, x)
			return len(got) < most
		})
		if !slices.Equal(got, l[:most]) {
			t.Error(most, got)
		}
	}
	for range 2 {
		if got := slices.Collect(each); !slices.Equal(got, l) {
			t.Error(got)
		}
	}
}

// Has, Len, First, Holds, Same

func TestHas(t *testing.T) {
	for bits, s := range small() {
		for _, at := range places() {
			if got := s.Has(at); got != has(bits, at) {
				t.Error(bits, at, got)
			}
		}
	}
	s := ranges.Of(sp(0, 6), sp(9, 12))
	for at, in := range map[int64]bool{-1: false, 0: true, 5: true, 6: false, 8: false, 9: true, 11: true, 12: false, open: false} {
		if s.Has(at) != in {
			t.Error(at)
		}
	}
}

func TestLen(t *testing.T) {
	for _, c := range []struct {
		s    ranges.Set
		want int64
	}{
		{ranges.Set{}, 0}, {ranges.Of(sp(7, 7)), 0}, {ranges.Of(sp(3, 9)), 6}, {ranges.Of(sp(2, 5), sp(7, 8)), 4},
		{ranges.Of(sp(0, 5), sp(3, 9)), 9}, {ranges.Of(sp(0, open-1)), open - 1}, {ranges.Of(sp(0, 2), sp(5, open-1)), open - 4},
		{ranges.Of(sp(0, open)), open}, {ranges.Of(sp(3, open)), open}, {ranges.Of(sp(open-1, open)), open},
		{ranges.Of(sp(0, 6), sp(9, open)), open}, {ranges.Of(sp(0, open-2), sp(open-1, open)), open},
	} {
		if got := c.s.Len(); got != c.want {
			t.Error(c.s.Text(), got, c.want)
		}
	}
	for bits, s := range small() {
		var sum int64
		for at := int64(0); at < tail; at++ {
			if has(bits, at) {
				sum++
			}
		}
		if has(bits, tail) {
			sum = open
		}
		if s.Len() != sum {
			t.Error(bits, s.Len())
		}
	}
}

func TestFirst(t *testing.T) {
	s := ranges.Of(sp(2, 6), sp(9, 12), sp(20, open))
	for _, c := range []struct {
		at   int64
		want api.Span
		ok   bool
	}{
		{math.MinInt64, sp(2, 6), true}, {-1, sp(2, 6), true}, {0, sp(2, 6), true}, {1, sp(2, 6), true},
		{2, sp(2, 6), true}, {3, sp(3, 6), true}, {5, sp(5, 6), true},
		{6, sp(9, 12), true}, {8, sp(9, 12), true}, {9, sp(9, 12), true}, {11, sp(11, 12), true}, {12, sp(20, open), true},
		{20, sp(20, open), true}, {21, sp(21, open), true}, {open - 1, sp(open-1, open), true},
		{open, none, false}, {open + 1, none, false}, {math.MaxInt64, none, false},
	} {
		if got, ok := s.First(c.at); got != c.want || ok != c.ok {
			t.Error(c.at, got, ok)
		}
	}
	if got, ok := ranges.Of(sp(2, 6)).First(6); got != none || ok {
		t.Error(got, ok)
	}
	if got, ok := ranges.Of(sp(0, 6), sp(9, open)).First(7); got != sp(9, open) || !ok {
		t.Error(got, ok)
	}
	for _, at := range places() {
		if got, ok := (ranges.Set{}).First(at); got != none || ok {
			t.Error(at, got, ok)
		}
	}
}

func TestFirstOfSmallSets(t *testing.T) {
	for bits, s := range small() {
		for _, at := range places() {
			first, there := none, false
			for _, x := range runs(bits) {
				if x.To > at && !there {
					first, there = sp(max(x.From, at), x.To), true
				}
			}
			if got, ok := s.First(at); got != first || ok != there {
				t.Error(bits, at, got, ok)
			}
		}
	}
}

func TestHolds(t *testing.T) {
	s := ranges.Of(sp(0, 6), sp(9, 12), sp(20, open))
	for _, c := range []struct {
		x    api.Span
		want bool
	}{
		{sp(0, 6), true}, {sp(1, 5), true}, {sp(0, 1), true}, {sp(5, 6), true}, {sp(9, 12), true},
		{sp(0, 7), false}, {sp(5, 7), false}, {sp(6, 7), false}, {sp(6, 9), false}, {sp(8, 12), false}, {sp(9, 13), false}, {sp(5, 10), false},
		{sp(0, 12), false}, {sp(0, open), false}, {sp(9, open), false}, {sp(19, open), false}, {sp(12, 20), false},
		{sp(20, open), true}, {sp(21, open), true}, {sp(1<<40, 1<<41), true}, {sp(open-1, open), true}, {sp(20, open-1), true},
		{sp(7, 7), true}, {sp(3, 3), true}, {sp(6, 6), true}, {none, true}, {sp(open, open), true},
	} {
		if got := s.Holds(c.x); got != c.want {
			t.Error(c.x, got)
		}
	}
	for _, x := range wrong() {
		if s.Holds(x) || (ranges.Set{}).Holds(x) || ranges.Of(sp(0, open)).Holds(x) {
			t.Error(x)
		}
	}
	if (ranges.Set{}).Holds(sp(0, 1)) || !(ranges.Set{}).Holds(sp(5, 5)) || !(ranges.Set{}).Holds(none) {
		t.Error("the zero set")
	}
}

func TestHoldsOfSmallSets(t *testing.T) {
	ends := []int64{0, 1, 2, 3, 4, 5, 6, 7, 1 << 40, open - 1, open}
	for bits, s := range small() {
		for i, from := range ends {
			for _, to := range ends[i:] {
				holds := true
				for _, at := range places() {
					if span.Has(sp(from, to), at) && !has(bits, at) {
						holds = false
					}
				}
				if s.Holds(sp(from, to)) != holds {
					t.Error(bits, from, to)
				}
			}
		}
	}
}

func TestSame(t *testing.T) {
	sets := small()
	for i, a := range sets {
		for j, b := range sets {
			if a.Same(b) != (i == j) {
				t.Error(i, j)
			}
		}
	}
	if !(ranges.Set{}).Same(ranges.Of(sp(4, 4), sp(5, 3))) || !ranges.Of().Same(ranges.Set{}) || !ranges.Of(sp(0, 2), sp(1, 3)).Same(ranges.Of(sp(2, 3), sp(0, 2))) {
		t.Error("alike")
	}
	if ranges.Of(sp(0, open)).Same(ranges.Of(sp(0, open-1))) || ranges.Of(sp(0, 2)).Same(ranges.Of(sp(0, 2), sp(3, 4))) || ranges.Of(sp(0, 2), sp(3, 4)).Same(ranges.Of(sp(0, 2))) {
		t.Error("not alike")
	}
}

// Or, And, Less

func TestOrAndLess(t *testing.T) {
	for _, c := range []struct{ s, t, or, and, less string }{
		{"none", "none", "none", "none", "none"},
		{"3-9", "none", "3-9", "none", "3-9"}, {"none", "3-9", "3-9", "none", "none"},
		{"3-9", "3-9", "3-9", "3-9", "none"},
		{"0-4", "4-6", "0-6", "none", "0-4"}, {"4-6", "0-4", "0-6", "none", "4-6"},
		{"0-4", "5-6", "0-4,5-6", "none", "0-4"}, {"5-6", "0-4", "0-4,5-6", "none", "5-6"},
		{"0-5", "3-9", "0-9", "3-5", "0-3"}, {"3-9", "0-5", "0-9", "3-5", "5-9"},
		{"0-9", "3-5", "0-9", "3-5", "0-3,5-9"}, {"3-5", "0-9", "0-9", "3-5", "none"},
		{"3-9", "3-5", "3-9", "3-5", "5-9"}, {"3-9", "5-9", "3-9", "5-9", "3-5"},
		{"0-6,9-", "2-3", "0-6,9-", "2-3", "0-2,3-6,9-"}, {"0-6,9-", "6-9", "0-", "none", "0-6,9-"},
		{"0-6,9-", "5-20", "0-", "5-6,9-20", "0-5,20-"}, {"0-6,9-", "0-", "0-", "0-6,9-", "none"}, {"0-", "0-6,9-", "0-", "0-6,9-", "6-9"},
		{"1-2,3-4,5-6", "2-3,4-5", "1-6", "none", "1-2,3-4,5-6"}, {"0-2,4-6,8-10", "1-5,9-12", "0-6,8-12", "1-2,4-5,9-10", "0-1,5-6,8-9"},
		{"3-", "7-", "3-", "7-", "3-7"}, {"7-", "3-", "3-", "7-", "none"},
		{"0-", "4611686018427387903-", "0-", "4611686018427387903-", "0-4611686018427387903"},
		{"0-4611686018427387903", "4611686018427387903-", "0-", "none", "0-4611686018427387903"},
		{"4611686018427387903-", "none", "4611686018427387903-", "none", "4611686018427387903-"},
	} {
		a, e := ranges.Parse(c.s)
		b, f := ranges.Parse(c.t)
		if e != api.OK || f != api.OK {
			t.Error(c, e, f)
		}
		want(t, c.s+" or "+c.t, a.Or(b), c.or)
		want(t, c.s+" and "+c.t, a.And(b), c.and)
		want(t, c.s+" less "+c.t, a.Less(b), c.less)
	}
}

func TestOrAndLessOfSmallSets(t *testing.T) {
	sets := small()
	for i, a := range sets {
		for j, b := range sets {
			if got := a.Or(b).Spans(); !slices.Equal(got, runs(i|j)) {
				t.Error("or", i, j, got)
			}
			if got := a.And(b).Spans(); !slices.Equal(got, runs(i&j)) {
				t.Error("and", i, j, got)
			}
			if got := a.Less(b).Spans(); !slices.Equal(got, runs(i&^j)) {
				t.Error("less", i, j, got)
			}
		}
	}
}

// P2.2: what Or, And and Less of bytes obey, with sets whose ends lie anywhere.
func TestLaws(t *testing.T) {
	sets := []ranges.Set{
		{}, ranges.Of(sp(0, open)), ranges.Of(sp(open-1, open)), ranges.Of(sp(0, open-1)), ranges.Of(sp(0, 6), sp(9, open)), ranges.Of(sp(2, 3)),
		ranges.Of(sp(1<<40, 1<<41), sp(5, 7)), ranges.Of(sp(0, 1), sp(2, 3), sp(4, 5), sp(6, 7)), ranges.Of(sp(1, 2), sp(3, 4), sp(5, 1<<50), sp(open-3, open-2)),
	}
	nothing, everything := ranges.Set{}, ranges.Of(sp(0, open))
	not := everything.Less
	for _, a := range sets {
		if !a.Or(nothing).Same(a) || !a.And(nothing).Same(nothing) || !a.Less(nothing).Same(a) || !nothing.Less(a).Same(nothing) {
			t.Error("nothing", a.Text())
		}
		if !a.Or(a).Same(a) || !a.And(a).Same(a) || !a.Less(a).Same(nothing) || !not(not(a)).Same(a) || !a.And(everything).Same(a) || !a.Or(everything).Same(everything) {
			t.Error("itself", a.Text())
		}
		for _, b := range sets {
			if !a.Or(b).Same(b.Or(a)) || !a.And(b).Same(b.And(a)) || !a.Less(b).Same(a.And(not(b))) || !a.Less(b).Or(a.And(b)).Same(a) || !a.Or(a.And(b)).Same(a) || !a.And(a.Or(b)).Same(a) {
				t.Error("two", a.Text(), b.Text())
			}
			if !not(a.Or(b)).Same(not(a).And(not(b))) || !not(a.And(b)).Same(not(a).Or(not(b))) {
				t.Error("not", a.Text(), b.Text())
			}
			for _, c := range sets {
				if !a.Or(b.Or(c)).Same(a.Or(b).Or(c)) || !a.And(b.And(c)).Same(a.And(b).And(c)) || !a.And(b.Or(c)).Same(a.And(b).Or(a.And(c))) || !a.Less(b).Less(c).Same(a.Less(b.Or(c))) {
					t.Error("three", a.Text(), b.Text(), c.Text())
				}
			}
		}
	}
}

// Near

func TestNear(t *testing.T) {
	for _, c := range []struct {
		s    string
		gap  int64
		want string
	}{
		{"0-6,9-", 2, "0-6,9-"}, {"0-6,9-", 3, "0-"}, {"0-6,9-", 4, "0-"},
		{"0-6,9-", 0, "0-6,9-"}, {"0-6,9-", -1, "0-6,9-"}, {"0-6,9-", math.MinInt64, "0-6,9-"},
		{"0-6,7-9", 0, "0-6,7-9"}, {"0-6,7-9", -1, "0-6,7-9"}, {"0-6,7-9", math.MinInt64, "0-6,7-9"}, {"0-6,7-9", 1, "0-9"},
		{"0-6,9-", math.MaxInt64, "0-"}, {"5-6,9-12", math.MaxInt64, "5-12"},
		{"3-9", 5, "3-9"}, {"3-", 5, "3-"}, {"1-2", 1, "1-2"}, {"none", 5, "none"}, {"none", 0, "none"}, {"none", -1, "none"},
		{"0-1,3-4,6-7", 1, "0-1,3-4,6-7"}, {"0-1,3-4,6-7", 2, "0-7"},
		{"0-1,3-4,7-8,9-10", 2, "0-4,7-10"}, {"0-1,3-4,7-8,9-10", 1, "0-1,3-4,7-10"}, {"0-1,3-4,7-8,9-10", 3, "0-10"}, {"0-1,4-5,6-7", 2, "0-1,4-7"},
		{"0-1,4611686018427387903-", open - 3, "0-1,4611686018427387903-"}, {"0-1,4611686018427387903-", open - 2, "0-"},
	} {
		s, e := ranges.Parse(c.s)
		if e != api.OK {
			t.Error(c, e)
		}
		want(t, c.s+" near "+strconv.FormatInt(c.gap, 10), s.Near(c.gap), c.want)
	}
}

func TestNearOfSmallSets(t *testing.T) {
	for bits, s := range small() {
		for gap := int64(-2); gap < 9; gap++ {
			filled := bits
			l := runs(bits)
			for i := 1; i < len(l); i++ {
				for at := l[i-1].To; at < l[i].From && l[i].From-l[i-1].To <= gap; at++ {
					filled |= 1 << at
				}
			}
			near := s.Near(gap)
			if !slices.Equal(near.Spans(), runs(filled)) {
				t.Error(bits, gap, near.Text())
			}
			if !near.Near(gap).Same(near) || !s.Less(near).Same(ranges.Set{}) {
				t.Error("again", bits, gap, near.Text())
			}
		}
	}
}

// Text, Parse

func TestTextAndParse(t *testing.T) {
	for text, l := range map[string][]api.Span{
		"none": nil, "3-4": {sp(3, 4)}, "0-": {sp(0, open)}, "0-6,9-": {sp(0, 6), sp(9, open)}, "0-1,2-3,10-200": {sp(0, 1), sp(2, 3), sp(10, 200)},
		"4611686018427387903-": {sp(open-1, open)}, "0-4611686018427387902,4611686018427387903-": {sp(0, open-2), sp(open-1, open)},
	} {
		if got := ranges.Of(l...).Text(); got != text {
			t.Error(l, got, text)
		}
		if got, e := ranges.Parse(text); e != api.OK || !slices.Equal(got.Spans(), l) {
			t.Error(text, got.Spans(), e)
		}
	}
	for bits, s := range small() {
		if got, e := ranges.Parse(s.Text()); e != api.OK || !slices.Equal(got.Spans(), runs(bits)) {
			t.Error(bits, s.Text(), got.Spans(), e)
		}
	}
}

func refused(t *testing.T, text string) {
	t.Helper()
	if got, e := ranges.Parse(text); e != api.ErrForm || !got.Same(ranges.Set{}) || got.Text() != "none" {
		t.Errorf("%.60q: %.60s %v", text, got.Text(), e)
	}
}

func TestParseRefuses(t *testing.T) {
	for _, text := range []string{
		"", ",", ",,", "-", "0", "a", "None", "NONE", "none ", " none", "none,", ",none", "none,none", "none,1-2", "1-2,none", "nil", "nonenone",
		"0-4,4-6", "0-4,3-6", "0-4,0-4", "0-9,3-5", "5-6,0-1", "0-1,5-6,3-4", "0-2,2-", "3-,7-9", "3-,7-", "0-,0-", "7-,3-", "7-,3-5",
		"1-1", "0-0", "0-4,5-5", "0-4,4-4", "3-3,5-6", "4611686018427387904-4611686018427387904", "0-1,4611686018427387904-4611686018427387904",
		"4611686018427387904-", "3-4611686018427387904", "0-4611686018427387905", "0-9223372036854775808", "9-3", "0-1,9-3", "-1-3", "0-1,-3-5",
		"0-6,", ",0-6", "0-6,,9-12", "0-6, 9-12", "0-6 ,9-12", " 0-6", "0-6 ", "0-6;9-12", "0-6\n9-12", "0-6,9-12\n", "0-6,9-12\x00", "0-6\x00,9-12",
		"01-2", "0-02", "00-2", "0-2,03-4", "+1-2", "1-+2", "0x1-2", "1_0-20", "1.-2", "0-1,2", "0-1,2-3-4", "\u0661-2", "\xff",
	} {
		refused(t, text)
	}
}

// Of all short texts those are read that are "none", or right spans that rise with gaps between them.
func TestParseOfShortTexts(t *testing.T) {
	form := regexp.MustCompile(`^(0|[1-9][0-9]*)-(0|[1-9][0-9]*)?$`)
	isSet := func(text string) bool {
		ahead := int64(-1)
		for _, piece := range strings.Split(text, ",") {
			m := form.FindStringSubmatch(piece)
			if m == nil {
				return false
			}
			from, _ := strconv.ParseInt(m[1], 10, 64)
			to := open
			if m[2] != "" {
				to, _ = strconv.ParseInt(m[2], 10, 64)
			}
			if from <= ahead || to <= from {
				return false
			}
			ahead = to
		}
		return true
	}
	texts := []string{""}
	for from := 0; len(texts[from]) < 7; from++ {
		for _, c := range "0129-," {
			texts = append(texts, texts[from]+string(c))
		}
	}
	read := 0
	for _, text := range texts {
		s, e := ranges.Parse(text)
		if (e == api.OK) != isSet(text) || e != api.OK && e != api.ErrForm {
			t.Errorf("%q: %v", text, e)
		}
		if e == api.OK {
			read++
			if s.Text() != text {
				t.Errorf("%q: %s", text, s.Text())
			}
		} else if len(s.Spans()) != 0 {
			t.Errorf("%q: %v", text, s.Spans())
		}
	}
	if read == 0 {
		t.Error("none was read")
	}
}

// A text of just MaxText bytes is read; one with a byte more isn't, though a set has it.
func TestParseOfLongTexts(t *testing.T) {
	var l []api.Span
	for from := int64(10000); len(l) < 5461; from += 2 {
		l = append(l, sp(from, from+1))
	}
	l[len(l)-1].To = 1_000_000_000
	just := ranges.Of(l...)
	if len(just.Text()) != api.MaxText {
		t.Fatal(len(just.Text()))
	}
	if got, e := ranges.Parse(just.Text()); e != api.OK || !got.Same(just) || len(got.Spans()) != len(l) {
		t.Error(e)
	}
	l[len(l)-1].To = 10_000_000_000
	more := ranges.Of(l...)
	if len(more.Text()) != api.MaxText+1 || len(more.Spans()) != len(l) {
		t.Fatal(len(more.Text()))
	}
	refused(t, more.Text())
	refused(t, more.Text()[:api.MaxText-11])
	refused(t, strings.Repeat(",", api.MaxText))
	refused(t, strings.Repeat("0-1,", 1<<16))
	refused(t, "none"+strings.Repeat(" ", 1<<17))
	refused(t, strings.Repeat("0", 1<<17)+"1-2")
}

// A set never changes

func TestOfKeepsNothingOfItsArgument(t *testing.T) {
	for _, l := range [][]api.Span{
		{sp(0, 4), sp(9, 12), sp(20, open)}, {sp(9, 12), sp(20, open), sp(0, 4)}, {sp(9, 12), sp(0, 4), sp(3, 3), sp(5, 2), sp(2, 4), sp(20, open)}, {sp(3, 4)},
	} {
		handed := slices.Clone(l)
		s := ranges.Of(handed...)
		if !slices.Equal(handed, l) {
			t.Error("written into", l, handed)
		}
		text := s.Text()
		for i := range handed {
			handed[i] = sp(100, 200)
		}
		if s.Text() != text {
			t.Error(l, text, s.Text())
		}
	}
}

func TestWhatIsAnsweredMayBeChanged(t *testing.T) {
	s, u := ranges.Of(sp(0, 6), sp(9, 12), sp(20, open)), ranges.Of(sp(30, 40))
	near := s.Near(0)
	made := []ranges.Set{s, u, near, s.Near(-1), s.Near(3), s.Or(ranges.Set{}), ranges.Set{}.Or(s), s.And(s), s.And(ranges.Of(sp(0, open))), s.Less(ranges.Set{}), s.Or(u), ranges.Of(s.Spans()...)}
	var texts []string
	for _, x := range made {
		texts = append(texts, x.Text())
	}
	for _, x := range made {
		l, again := x.Spans(), x.Spans()
		for i := range l {
			l[i] = sp(100, 200)
		}
		_ = append(l[:0], sp(7, 8))
		if len(again) > 0 && again[0] == sp(100, 200) {
			t.Error("two lists share memory")
		}
		for y := range x.All() {
			y.To = y.From
		}
	}
	for i, x := range made {
		if x.Text() != texts[i] {
			t.Error(i, x.Text(), texts[i])
		}
	}
}

// Sets that were made of one set stay as they were, whatever else is made of it.
func TestSetsThatWereMadeStay(t *testing.T) {
	s := ranges.Of(sp(0, 1), sp(3, 4), sp(6, 7), sp(20, 21))
	a := s.Or(ranges.Of(sp(30, 31)))
	b := s.Or(ranges.Of(sp(40, 41)))
	c := s.Near(2)
	d := s.Less(ranges.Of(sp(6, 21)))
	e := s.And(ranges.Of(sp(0, 5)))
	f := d.Or(ranges.Of(sp(4, 5)))
	kept := s
	s = s.Or(ranges.Of(sp(0, open)))
	want(t, "s", s, "0-")
	want(t, "kept", kept, "0-1,3-4,6-7,20-21")
	want(t, "a", a, "0-1,3-4,6-7,20-21,30-31")
	want(t, "b", b, "0-1,3-4,6-7,20-21,40-41")
	want(t, "c", c, "0-7,20-21")
	want(t, "d", d, "0-1,3-4")
	want(t, "e", e, "0-1,3-4")
	want(t, "f", f, "0-1,3-5")
}
