package span_test

import (
	"math"
	"regexp"
	"strconv"
	"strings"
	"testing"

	"mandoline/api"
	"mandoline/span"
)

const open = api.Open

var none api.Span

func sp(from, to int64) api.Span { return api.Span{From: from, To: to} }

// wrong is spans that aren't right: below 0, upside down, or beyond Open.
func wrong() []api.Span {
	return []api.Span{
		sp(-1, 0), sp(-1, 5), sp(-3, -1), sp(-1, -1), sp(-1, open),
		sp(1, 0), sp(9, 3), sp(open, open-1), sp(open, 0),
		sp(0, open+1), sp(open, open+1), sp(open+1, open+1), sp(open+1, open),
		sp(math.MinInt64, math.MaxInt64), sp(math.MinInt64, 0), sp(0, math.MaxInt64),
		sp(math.MaxInt64, math.MaxInt64), sp(math.MaxInt64, math.MinInt64), sp(0, math.MinInt64),
	}
}

// right is every right span whose ends are near 0, near Open, or in the middle.
func right() []api.Span {
	ends := []int64{0, 1, 2, 3, 4, 5, 7, 8, 9, 1 << 40, open - 4, open - 1, open}
	var l []api.Span
	for i, from := range ends {
		for _, to := range ends[i:] {
			l = append(l, sp(from, to))
		}
	}
	return l
}

// places is bytes in, at and beside all the ends of right and wrong.
func places() []int64 {
	l := []int64{math.MinInt64, open - 6, open - 5, open - 4, open - 3, open - 2, open - 1, open, open + 1, math.MaxInt64, 1<<40 - 1, 1 << 40, 1<<40 + 1}
	for at := int64(-3); at < 12; at++ {
		l = append(l, at)
	}
	return l
}

// has is the document's words for a right span, apart from the package.
func has(s api.Span, at int64) bool { return s.From <= at && at < s.To }

// P1.1

func TestRight(t *testing.T) {
	for _, s := range right() {
		if !span.Right(s) {
			t.Error(s)
		}
	}
	for _, s := range wrong() {
		if span.Right(s) {
			t.Error(s)
		}
	}
}

func TestLen(t *testing.T) {
	for _, x := range []struct {
		s    api.Span
		want int64
	}{
		{sp(3, 9), 6}, {sp(0, 1), 1}, {sp(0, 0), 0}, {sp(7, 7), 0}, {sp(open, open), 0},
		{sp(0, open-1), open - 1}, {sp(open-2, open-1), 1},
		{sp(0, open), open}, {sp(3, open), open}, {sp(open-1, open), open},
	} {
		if got := span.Len(x.s); got != x.want {
			t.Error(x.s, got, x.want)
		}
	}
	for _, s := range wrong() {
		if got := span.Len(s); got != 0 {
			t.Error(s, got)
		}
	}
}

func TestHas(t *testing.T) {
	for _, s := range right() {
		for _, at := range places() {
			if got := span.Has(s, at); got != has(s, at) {
				t.Error(s, at, got)
			}
		}
	}
	for _, s := range wrong() {
		for _, at := range places() {
			if span.Has(s, at) {
				t.Error(s, at)
			}
		}
	}
	s := sp(3, 9)
	if span.Has(s, 2) || !span.Has(s, 3) || !span.Has(s, 8) || span.Has(s, 9) {
		t.Error("the ends of 3-9")
	}
	if !span.Has(sp(3, open), open-1) || span.Has(sp(3, open), open) || span.Has(sp(open, open), open) {
		t.Error("at Open")
	}
}

func TestWithin(t *testing.T) {
	for _, x := range []struct {
		a, b api.Span
		want bool
	}{
		{sp(3, 9), sp(3, 9), true}, {sp(4, 8), sp(3, 9), true}, {sp(3, 8), sp(3, 9), true}, {sp(4, 9), sp(3, 9), true},
		{sp(2, 9), sp(3, 9), false}, {sp(3, 10), sp(3, 9), false}, {sp(0, 3), sp(3, 9), false}, {sp(9, 12), sp(3, 9), false}, {sp(2, 10), sp(3, 9), false},
		{sp(3, open), sp(3, 9), false}, {sp(3, 9), sp(0, open), true}, {sp(3, open), sp(0, open), true}, {sp(0, open), sp(3, open), false},
		{sp(4, 4), sp(3, 9), true}, {sp(50, 50), sp(3, 9), true}, {sp(0, 0), sp(3, 9), true}, {sp(open, open), sp(3, 9), true},
		{sp(5, 5), sp(9, 9), true}, {sp(5, 6), sp(5, 5), false}, {sp(0, 0), sp(0, 0), true},
	} {
		if got := span.Within(x.a, x.b); got != x.want {
			t.Error(x.a, x.b, got)
		}
	}
	for _, w := range wrong() {
		for _, s := range append(right(), w) {
			if span.Within(w, s) || span.Within(s, w) {
				t.Error(w, s)
			}
		}
	}
}

// P1.2

func TestMeetTouchJoin(t *testing.T) {
	for _, x := range []struct {
		a, b  api.Span
		meet  api.Span
		met   bool
		touch bool
		join  api.Span
	}{
		{sp(0, 5), sp(3, 9), sp(3, 5), true, true, sp(0, 9)},
		{sp(0, 9), sp(3, 5), sp(3, 5), true, true, sp(0, 9)},
		{sp(3, 9), sp(3, 9), sp(3, 9), true, true, sp(3, 9)},
		{sp(3, 9), sp(8, 12), sp(8, 9), true, true, sp(3, 12)},
		{sp(0, 3), sp(3, 5), none, false, true, sp(0, 5)},
		{sp(0, 3), sp(4, 5), none, false, false, none},
		{sp(0, open), sp(3, 9), sp(3, 9), true, true, sp(0, open)},
		{sp(0, open), sp(3, open), sp(3, open), true, true, sp(0, open)},
		{sp(0, 3), sp(3, open), none, false, true, sp(0, open)},
		{sp(0, 2), sp(3, open), none, false, false, none},
		{sp(4, 4), sp(0, 9), none, false, true, sp(0, 9)},
		{sp(0, 0), sp(0, 9), none, false, true, sp(0, 9)},
		{sp(9, 9), sp(0, 9), none, false, true, sp(0, 9)},
		{sp(10, 10), sp(0, 9), none, false, false, none},
		{sp(5, 5), sp(5, 5), none, false, true, sp(5, 5)},
		{sp(5, 5), sp(6, 6), none, false, false, none},
		{sp(0, 0), sp(0, 0), none, false, true, none},
		{sp(open, open), sp(3, open), none, false, true, sp(3, open)},
		{sp(open, open), sp(3, open-1), none, false, false, none},
		{sp(0, open-1), sp(open-1, open), none, false, true, sp(0, open)},
	} {
		for _, pair := range [][2]api.Span{{x.a, x.b}, {x.b, x.a}} {
			if got, ok := span.Meet(pair[0], pair[1]); got != x.meet || ok != x.met {
				t.Error("meet", pair, got, ok)
			}
			if got := span.Touch(pair[0], pair[1]); got != x.touch {
				t.Error("touch", pair, got)
			}
			if got, ok := span.Join(pair[0], pair[1]); got != x.join || ok != x.touch {
				t.Error("join", pair, got, ok)
			}
		}
	}
}

func TestMeetTouchJoinOfWrongSpans(t *testing.T) {
	for _, w := range wrong() {
		for _, s := range append(right(), w) {
			for _, pair := range [][2]api.Span{{w, s}, {s, w}} {
				if got, ok := span.Meet(pair[0], pair[1]); ok || got != none {
					t.Error("meet", pair, got, ok)
				}
				if span.Touch(pair[0], pair[1]) {
					t.Error("touch", pair)
				}
				if got, ok := span.Join(pair[0], pair[1]); ok || got != none {
					t.Error("join", pair, got, ok)
				}
			}
		}
	}
}

// P1.3

func TestCut(t *testing.T) {
	for _, x := range []struct {
		s           api.Span
		at          int64
		ahead, rest api.Span
	}{
		{sp(3, 9), 5, sp(3, 5), sp(5, 9)},
		{sp(3, 9), 3, sp(3, 3), sp(3, 9)},
		{sp(3, 9), 9, sp(3, 9), sp(9, 9)},
		{sp(3, 9), 2, sp(3, 3), sp(3, 9)},
		{sp(3, 9), -1, sp(3, 3), sp(3, 9)},
		{sp(3, 9), math.MinInt64, sp(3, 3), sp(3, 9)},
		{sp(3, 9), 10, sp(3, 9), sp(9, 9)},
		{sp(3, 9), open, sp(3, 9), sp(9, 9)},
		{sp(3, 9), math.MaxInt64, sp(3, 9), sp(9, 9)},
		{sp(3, open), 5, sp(3, 5), sp(5, open)},
		{sp(3, open), 0, sp(3, 3), sp(3, open)},
		{sp(3, open), open, sp(3, open), sp(open, open)},
		{sp(3, open), math.MaxInt64, sp(3, open), sp(open, open)},
		{sp(0, open), 0, sp(0, 0), sp(0, open)},
		{sp(7, 7), 7, sp(7, 7), sp(7, 7)},
		{sp(7, 7), 3, sp(7, 7), sp(7, 7)},
		{sp(7, 7), 9, sp(7, 7), sp(7, 7)},
		{sp(0, 0), -5, none, none},
		{sp(open, open), 0, sp(open, open), sp(open, open)},
	} {
		if ahead, rest := span.Cut(x.s, x.at); ahead != x.ahead || rest != x.rest {
			t.Error(x.s, x.at, ahead, rest)
		}
	}
	for _, s := range wrong() {
		for _, at := range places() {
			if ahead, rest := span.Cut(s, at); ahead != none || rest != none {
				t.Error(s, at, ahead, rest)
			}
		}
	}
}

// P1.4

func TestAlign(t *testing.T) {
	const most = int64(1) << 40
	for _, x := range []struct {
		s    api.Span
		unit int64
		want api.Span
	}{
		{sp(3, 9), 4, sp(0, 12)}, {sp(4, 8), 4, sp(4, 8)}, {sp(5, 8), 4, sp(4, 8)}, {sp(4, 7), 4, sp(4, 8)}, {sp(7, 9), 4, sp(4, 12)},
		{sp(3, 9), 5, sp(0, 10)}, {sp(10, 11), 10, sp(10, 20)},
		{sp(3, 9), 1, sp(3, 9)}, {sp(0, open), 1, sp(0, open)}, {sp(3, open-1), 1, sp(3, open-1)},
		{sp(3, 9), most, sp(0, most)}, {sp(most, most+1), most, sp(most, 2*most)}, {sp(most-1, most+1), most, sp(0, 2*most)},
		{sp(open-1, open), most, sp(open-most, open)}, {sp(0, open-most+1), most, sp(0, open)}, {sp(0, open-most), most, sp(0, open-most)},
		{sp(5, open), 4, sp(4, open)}, {sp(5, open), 7, sp(0, open)}, {sp(8, open), 7, sp(7, open)},
		{sp(5, 5), 4, sp(4, 8)}, {sp(4, 4), 4, sp(4, 4)}, {sp(0, 0), 4, sp(0, 0)}, {sp(0, 0), most, sp(0, 0)},
		{sp(0, open-1), 7, sp(0, open)}, {sp(open-1, open-1), 7, sp(open-4, open)},
		{sp(0, open-1), most - 1, sp(0, open)},
		{sp(open, open), 4, sp(open, open)}, {sp(open, open), most, sp(open, open)}, {sp(open, open), 7, sp(open-4, open)},
	} {
		if got, e := span.Align(x.s, x.unit); got != x.want || e != api.OK {
			t.Error(x.s, x.unit, got, e)
		}
	}
}

func TestAlignRefuses(t *testing.T) {
	for _, s := range wrong() {
		for _, unit := range []int64{1, 4, 1 << 40, 0} {
			if got, e := span.Align(s, unit); got != none || e != api.ErrArg {
				t.Error(s, unit, got, e)
			}
		}
	}
	for _, s := range right() {
		for _, unit := range []int64{0, -1, -4, 1<<40 + 1, 1 << 41, open, math.MaxInt64, math.MinInt64} {
			if got, e := span.Align(s, unit); got != none || e != api.ErrArg {
				t.Error(s, unit, got, e)
			}
		}
	}
}

// P1.5

func TestTextAndParse(t *testing.T) {
	for text, s := range map[string]api.Span{
		"3-9": sp(3, 9), "3-": sp(3, open), "0-": sp(0, open), "0-0": none, "0-1": sp(0, 1), "7-7": sp(7, 7), "10-200": sp(10, 200),
		"1099511627776-": sp(1<<40, open), "0-4611686018427387903": sp(0, open-1), "4611686018427387903-": sp(open-1, open),
		"4611686018427387904-4611686018427387904": sp(open, open),
	} {
		if got := span.Text(s); got != text {
			t.Errorf("%v: %q, not %q", s, got, text)
		}
		if got, e := span.Parse(text); got != s || e != api.OK {
			t.Error(text, got, e)
		}
	}
	for _, s := range right() {
		if got, e := span.Parse(span.Text(s)); got != s || e != api.OK {
			t.Error(s, got, e)
		}
	}
	for _, s := range wrong() {
		if got := span.Text(s); got != "" {
			t.Errorf("%v: %q", s, got)
		}
	}
}

func TestParseRefuses(t *testing.T) {
	for _, text := range []string{
		"", "3", "-", "--", "-9", "-3-9", "3--9", "3-9-", "3-9-12", "3-9,", "3,9", "3-9,12-", "none", "a-b", "3-x", "x-9",
		" 3-9", "3-9 ", "3 -9", "3- 9", "3- ", "3-9\n", "\t3-", "3-9\x00", "\x003-9", "3\u20139", "\u0663-9", "3-\u0669", "\xff-9",
		"03-9", "3-09", "00-", "00-0", "0-00", "+3-9", "3-+9", "3-+", "-0-9", "0--0", "3_0-40", "0x3-9", "3-0x9", "3.0-9", "3e0-9",
		"9-3", "1-0", "9-0",
		"3-4611686018427387904", "0-4611686018427387904", "3-4611686018427387905", "4611686018427387904-", "4611686018427387905-",
		"4611686018427387904-4611686018427387905", "4611686018427387905-4611686018427387905", "4611686018427387904-4611686018427387903",
		"3-9223372036854775807", "3-9223372036854775808", "9223372036854775808-", "18446744073709551619-18446744073709551625",
		strings.Repeat("9", 100) + "-", "3-" + strings.Repeat("9", 1<<17), strings.Repeat("0", 1<<17) + "3-9", "3-9" + strings.Repeat(" ", 1<<17),
	} {
		if got, e := span.Parse(text); got != none || e != api.ErrForm {
			t.Errorf("%.60q: %v %v", text, got, e)
		}
	}
}

// Of all short texts those are read that the document's form takes.
func TestParseOfShortTexts(t *testing.T) {
	form := regexp.MustCompile(`^(0|[1-9][0-9]*)-(0|[1-9][0-9]*)?$`)
	texts := []string{""}
	for from := 0; len(texts[from]) < 6; from++ {
		for _, c := range "0129-+ _" {
			texts = append(texts, texts[from]+string(c))
		}
	}
	for _, text := range texts {
		want, fault := none, api.ErrForm
		if m := form.FindStringSubmatch(text); m != nil {
			want.From, _ = strconv.ParseInt(m[1], 10, 64)
			want.To = open
			if m[2] != "" {
				want.To, _ = strconv.ParseInt(m[2], 10, 64)
			}
			fault = api.OK
			if want.From > want.To {
				want, fault = none, api.ErrForm
			}
		}
		if got, e := span.Parse(text); got != want || e != fault {
			t.Errorf("%q: %v %v", text, got, e)
		}
	}
}

// P1.6

func TestBytesOfMeetAndJoin(t *testing.T) {
	for _, a := range right() {
		for _, b := range right() {
			meet, met := span.Meet(a, b)
			join, joined := span.Join(a, b)
			shared := false
			for _, at := range places() {
				both := has(a, at) && has(b, at)
				either := has(a, at) || has(b, at)
				shared = shared || both
				if has(meet, at) != both {
					t.Error("meet", a, b, meet, at)
				}
				if joined && has(join, at) != either {
					t.Error("join", a, b, join, at)
				}
			}
			if met != shared || joined != span.Touch(a, b) || met && !joined {
				t.Error(a, b, met, joined)
			}
		}
	}
}

func TestBytesOfCut(t *testing.T) {
	for _, s := range right() {
		for _, cut := range places() {
			ahead, rest := span.Cut(s, cut)
			if !span.Right(ahead) || !span.Right(rest) || ahead.To != rest.From {
				t.Error(s, cut, ahead, rest)
			}
			for _, at := range places() {
				if has(ahead, at) != (has(s, at) && at < cut) || has(rest, at) != (has(s, at) && at >= cut) {
					t.Error(s, cut, ahead, rest, at)
				}
			}
		}
	}
}

func TestAlignIsTheLeastOfWholeUnits(t *testing.T) {
	for _, s := range right() {
		for _, unit := range []int64{1, 2, 3, 4, 5, 7, 8, 1000, 1<<40 - 1, 1 << 40} {
			got, e := span.Align(s, unit)
			whole := got.From%unit == 0 && (got.To%unit == 0 || got.To == open)
			covers := got.From <= s.From && s.To <= got.To
			least := s.From-got.From < unit && got.To-s.To < unit
			if e != api.OK || !span.Right(got) || !span.Within(s, got) || !whole || !covers || !least {
				t.Error(s, unit, got, e)
			}
			if again, _ := span.Align(got, unit); again != got {
				t.Error(s, unit, got, again)
			}
		}
	}
}
