package spec_test

import (
	"math"
	"regexp"
	"slices"
	"strconv"
	"strings"
	"testing"

	"mandoline/api"
	"mandoline/ranges"
	"mandoline/span"
	"mandoline/spec"
)

const (
	open = api.Open
	most = int64(999_999_999_999_999_999)
)

func sp(from, to int64) api.Span { return api.Span{From: from, To: to} }

// r is the bytes from one on to another one; on all from one on; last the last ones.
func r(from, to int64) api.Spec { return api.Spec{From: from, To: to} }
func on(from int64) api.Spec    { return api.Spec{From: from, To: -1} }
func last(n int64) api.Spec     { return api.Spec{From: -1, To: n} }

// specs is so many ranges, each another one.
func specs(n int) []api.Spec {
	var l []api.Spec
	for i := range int64(n) {
		l = append(l, r(2*i, 2*i+1))
	}
	return l
}

// right is ranges that may be asked, of each kind, up to the edges.
func right() []api.Spec {
	return []api.Spec{
		r(0, 0), r(0, 1), r(1, 1), r(3, 9), r(0, most), r(most-1, most), r(most, most),
		on(0), on(1), on(3), on(most - 1), on(most),
		last(0), last(1), last(5), last(most - 1), last(most),
	}
}

// wrong is ranges that may not be asked, each just beside one that may, or far off.
func wrong() []api.Spec {
	return []api.Spec{
		r(1, 0), r(9, 8), r(most, most-1), r(most, 0), r(0, most+1), r(most, most+1), r(most+1, most+1), r(most+1, most+2), r(most+1, 0),
		r(-1, -1), r(-2, 0), r(-2, 5), r(0, -2), r(5, -2), r(-2, -2), r(-2, -1), r(-1, -2), r(-3, -2),
		on(most + 1), last(most + 1), on(open), last(open), r(0, open), r(open, open),
		on(math.MaxInt64), last(math.MaxInt64), on(math.MinInt64), last(math.MinInt64), r(0, math.MaxInt64), r(0, math.MinInt64),
		r(math.MinInt64, 0), r(math.MaxInt64, 0), r(math.MaxInt64, math.MaxInt64), r(math.MinInt64, math.MaxInt64), r(math.MinInt64, math.MinInt64),
	}
}

// P4.1: Parse

func TestParse(t *testing.T) {
	for s, want := range map[string][]api.Spec{
		"bytes=3-9": {r(3, 9)}, "bytes=3-": {on(3)}, "bytes=-5": {last(5)},
		"bytes=0-0": {r(0, 0)}, "bytes=0-": {on(0)}, "bytes=-0": {last(0)}, "bytes=7-7": {r(7, 7)},
		"bytes=0-4, 7-,,-3": {r(0, 4), on(7), last(3)},
		"bytes=5-6,0-9,5-6": {r(5, 6), r(0, 9), r(5, 6)},
		"bytes=-3,7-,0-4":   {last(3), on(7), r(0, 4)},

		"Bytes=1-2": {r(1, 2)}, "BYTES=1-2": {r(1, 2)}, "bYtEs=1-2": {r(1, 2)}, "byteS=1-2": {r(1, 2)},

		"bytes= 1-2": {r(1, 2)}, "bytes=1-2 ": {r(1, 2)}, "bytes=\t1-2\t": {r(1, 2)}, "bytes= \t \t1-2\t \t ": {r(1, 2)},
		"bytes=1-2 ,\t3-": {r(1, 2), on(3)}, "bytes=1-2\t , \t-3 \t": {r(1, 2), last(3)},

		"bytes=,1-2": {r(1, 2)}, "bytes=1-2,": {r(1, 2)}, "bytes=,,,1-2,,,": {r(1, 2)}, "bytes= , \t,1-2,\t , ": {r(1, 2)}, "bytes=1-2,,,,3-,  ,-4": {r(1, 2), on(3), last(4)},

		"bytes=007-010": {r(7, 10)}, "bytes=00-00": {r(0, 0)}, "bytes=08-": {on(8)}, "bytes=-09": {last(9)}, "bytes=-00": {last(0)}, "bytes=09-9": {r(9, 9)},
		"bytes=000000000000000007-000000000000000010": {r(7, 10)},

		"bytes=999999999999999999-": {on(most)}, "bytes=-999999999999999999": {last(most)}, "bytes=0-999999999999999999": {r(0, most)},
		"bytes=999999999999999999-999999999999999999": {r(most, most)}, "bytes=100000000000000000-": {on(100_000_000_000_000_000)}, "bytes=123456789012345678-": {on(123_456_789_012_345_678)},
	} {
		if got, e := spec.Parse(s); e != api.OK || !slices.Equal(got, want) {
			t.Errorf("%q: %v %v", s, got, e)
		}
	}
}

func refused(t *testing.T, s string, want api.Errno) {
	t.Helper()
	if got, e := spec.Parse(s); e != want || len(got) != 0 {
		t.Errorf("%.60q: %v %v", s, got, e)
	}
}

func TestParseRefuses(t *testing.T) {
	for _, s := range []string{
		// no range at all
		"", "=", "bytes", "bytes=", "bytes=,", "bytes=,,,", "bytes= ", "bytes=\t", "bytes= ,\t, ",
		// another word
		"byte=1-2", "bytess=1-2", "=1-2", "1-2", "octets=1-2", "none", " bytes=1-2", "\tbytes=1-2", "bytes =1-2", "bytes\t=1-2", "xbytes=1-2", "bytes1-2", "bytes:1-2", "bytes==1-2", "bytes=bytes=1-2", "bytes=1-2=",
		"byte\u017f=1-2", "byt\u017f=1-2", "BYTE\u017f=1-2", "\uff42ytes=1-2", "byte\xff=1-2", "bytes\x00=1-2", "\ufeffbytes=1-2",
		// the end below the begin
		"bytes=2-1", "bytes=1-0", "bytes=10-9", "bytes=010-9", "bytes=999999999999999999-999999999999999998", "bytes=0-4,2-1", "bytes=2-1,0-4",
		// 19 digits and more
		"bytes=1000000000000000000-", "bytes=-1000000000000000000", "bytes=0-1000000000000000000", "bytes=0000000000000000000-", "bytes=0000000000000000007-9", "bytes=7-0000000000000000009", "bytes=-0000000000000000001",
		"bytes=9999999999999999999-", "bytes=9223372036854775807-", "bytes=0-9223372036854775808", "bytes=-18446744073709551616", "bytes=18446744073709551617-18446744073709551618",
		// no digits, dashes, or more of them
		"bytes=-", "bytes=--", "bytes=1", "bytes=1--", "bytes=--1", "bytes=1--2", "bytes=-1-2", "bytes=1-2-", "bytes=1-2-3", "bytes=-1-", "bytes=1-,-", "bytes=-,1-", "bytes=5-6,0-9,-", "bytes=1,2",
		// blanks within, and what is no blank
		"bytes=1 -2", "bytes=1- 2", "bytes=1 2-3", "bytes=- 1", "bytes=1\t-", "bytes=1-2 3-4", "bytes=1-2\n", "bytes=\r1-2", "bytes=\v1-2", "bytes=1-2\f", "bytes=1-2\x00", "bytes=\u00a01-2", "bytes=1-2\u0085", "bytes=\n", "bytes=1-2,\n",
		// other signs
		"bytes=a-", "bytes=-a", "bytes=a-b", "bytes=1-a", "bytes=a-1", "bytes=+1-2", "bytes=1-+2", "bytes=-+1", "bytes=0x1-2", "bytes=1_0-20", "bytes=1.-2", "bytes=1e1-20", "bytes=1-2;3-4", "bytes=*", "bytes=1-*", "bytes=1-2,x", "bytes=x,1-2", "bytes=1-2/9",
		"bytes=/-9", "bytes=:-", "bytes=0-:", "bytes=-/", "bytes=\u0661-2", "bytes=1-\u0662", "bytes=1\u20132", "bytes=\xff-2", "bytes=1-\xff",
	} {
		refused(t, s, api.ErrForm)
	}
}

func TestParseOfManyRanges(t *testing.T) {
	for _, one := range []string{"1-2", "1-", "-1", " 01-2\t"} {
		many := func(n int) string { return "bytes=" + strings.Repeat(one+",", n) }
		for _, n := range []int{1, 2, 63, 64} {
			if l, e := spec.Parse(many(n)); e != api.OK || len(l) != n {
				t.Error(one, n, len(l), e)
			}
		}
		if l, e := spec.Parse(many(64) + ", ,,\t"); e != api.OK || len(l) != 64 {
			t.Error(one, len(l), e)
		}
		for _, n := range []int{65, 66, 100, 1000} {
			refused(t, many(n), api.ErrMany)
			refused(t, many(n)+"2-1", api.ErrForm)
			refused(t, many(n)+"x", api.ErrForm)
			refused(t, "bytes=x,"+many(n)[len("bytes="):], api.ErrForm)
			refused(t, many(n)[1:], api.ErrForm)
		}
	}
	all := specs(64)
	text := "bytes=" + strings.TrimSuffix(strings.Repeat("x,", 64), ",")
	for _, x := range all {
		text = strings.Replace(text, "x", strconv.FormatInt(x.From, 10)+"-"+strconv.FormatInt(x.To, 10), 1)
	}
	if got, e := spec.Parse(text); e != api.OK || !slices.Equal(got, all) {
		t.Error(got, e)
	}
}

// Around an item stand as many blanks as one likes, and as many items without anything.
func TestParseOfLongTexts(t *testing.T) {
	long := strings.Repeat(" \t", api.MaxText)
	for _, s := range []string{"bytes=" + long + "1-2,3-", "bytes=1-2" + long + ",3-", "bytes=1-2," + long + "3-" + long, "bytes=1-2" + strings.Repeat(",", 2*api.MaxText) + "3-", "bytes=" + strings.Repeat(" ,\t", api.MaxText) + "1-2,3-"} {
		if got, e := spec.Parse(s); e != api.OK || !slices.Equal(got, []api.Spec{r(1, 2), on(3)}) {
			t.Error(len(s), got, e)
		}
	}
	refused(t, "bytes="+long, api.ErrForm)
	refused(t, "bytes="+strings.Repeat(",", 2*api.MaxText), api.ErrForm)
	refused(t, strings.Repeat("bytes", api.MaxText)+"=1-2", api.ErrForm)
	refused(t, "bytes="+strings.Repeat("0", 2*api.MaxText)+"1-2", api.ErrForm)
	refused(t, "bytes="+strings.Repeat("-", 2*api.MaxText), api.ErrForm)
}

// Of all short texts those are read that the document's form takes.
func TestParseOfShortTexts(t *testing.T) {
	item := regexp.MustCompile(`^[ \t]*(?:([0-9]+)-([0-9]*)|-([0-9]+))?[ \t]*$`)
	number := func(s string) int64 {
		if s == "" {
			return -1
		}
		n, _ := strconv.ParseInt(s, 10, 64)
		return n
	}
	// read is the document's words for short texts, apart from the package.
	read := func(items string) []api.Spec {
		var l []api.Spec
		for _, piece := range strings.Split(items, ",") {
			m := item.FindStringSubmatch(piece)
			switch {
			case m == nil:
				return nil
			case m[3] != "":
				l = append(l, last(number(m[3])))
			case m[1] != "" && m[2] != "" && number(m[2]) < number(m[1]):
				return nil
			case m[1] != "":
				l = append(l, r(number(m[1]), number(m[2])))
			}
		}
		return l
	}
	texts := []string{""}
	for from := 0; len(texts[from]) < 6; from++ {
		for _, c := range "019-, \t" {
			texts = append(texts, texts[from]+string(c))
		}
	}
	for _, text := range texts {
		want, fault := read(text), api.OK
		if len(want) == 0 {
			fault = api.ErrForm
		}
		if got, e := spec.Parse("bytes=" + text); e != fault || !slices.Equal(got, want) {
			t.Errorf("%q: %v %v", text, got, e)
		}
	}
}

// P4.1: Text

func TestText(t *testing.T) {
	for want, l := range map[string][]api.Spec{
		"bytes=3-9": {r(3, 9)}, "bytes=3-": {on(3)}, "bytes=-5": {last(5)}, "bytes=3-9,3-,-5": {r(3, 9), on(3), last(5)},
		"bytes=0-0": {r(0, 0)}, "bytes=0-": {on(0)}, "bytes=-0": {last(0)}, "bytes=-5,10-200,3-": {last(5), r(10, 200), on(3)}, "bytes=1-2,1-2": {r(1, 2), r(1, 2)},
		"bytes=999999999999999999-999999999999999999,999999999999999999-,-999999999999999999": {r(most, most), on(most), last(most)},
	} {
		if got, e := spec.Text(l); got != want || e != api.OK {
			t.Error(l, got, e)
		}
	}
	if got, e := spec.Text(specs(64)); e != api.OK || !strings.HasPrefix(got, "bytes=0-1,2-3,4-5,") || !strings.HasSuffix(got, ",126-127") || strings.Count(got, ",") != 63 {
		t.Error(got, e)
	}
}

func TestTextRefuses(t *testing.T) {
	none := func(l []api.Spec, want api.Errno) {
		t.Helper()
		if got, e := spec.Text(l); got != "" || e != want {
			t.Error(len(l), got, e)
		}
	}
	none(nil, api.ErrArg)
	none([]api.Spec{}, api.ErrArg)
	for _, x := range wrong() {
		none([]api.Spec{x}, api.ErrArg)
		none([]api.Spec{r(0, 1), x}, api.ErrArg)
		none([]api.Spec{x, r(0, 1)}, api.ErrArg)
		none(append(specs(63), x), api.ErrArg)
		none(append(specs(64), x), api.ErrArg)
		none(append([]api.Spec{x}, specs(100)...), api.ErrArg)
	}
	none(specs(65), api.ErrMany)
	none(specs(66), api.ErrMany)
	none(specs(1000), api.ErrMany)
}

// P4.2

func TestParseOfText(t *testing.T) {
	again := func(l ...api.Spec) {
		t.Helper()
		given := slices.Clone(l)
		text, e := spec.Text(l)
		got, f := spec.Parse(text)
		if e != api.OK || f != api.OK || !slices.Equal(got, given) || !slices.Equal(l, given) {
			t.Error(given, text, got, e, f)
		}
	}
	for _, a := range right() {
		again(a)
		for _, b := range right() {
			again(a, b)
			again(b, a, b)
		}
	}
	for n := 1; n <= 64; n++ {
		again(specs(n)...)
	}
	again(right()...)
	var long []api.Spec
	for range 64 {
		long = append(long, r(most, most))
	}
	again(long...)
}

// P4.1: Right

func TestRight(t *testing.T) {
	for _, x := range right() {
		if !spec.Right(x) {
			t.Error(x)
		}
	}
	for _, x := range wrong() {
		if spec.Right(x) {
			t.Error(x)
		}
	}
	for from := int64(-4); from < 6; from++ {
		for to := int64(-4); to < 6; to++ {
			want := from >= 0 && to >= from || from >= 0 && to == -1 || from == -1 && to >= 0
			if got := spec.Right(r(from, to)); got != want {
				t.Error(from, to, got)
			}
		}
	}
}

// P4.1: Resolve

func TestResolve(t *testing.T) {
	for _, c := range []struct {
		l    []api.Spec
		have int64
		want []api.Span
	}{
		{[]api.Spec{r(0, 4), on(7), last(3)}, 10, []api.Span{sp(0, 5), sp(7, 10), sp(7, 10)}},
		// within, just up to, across, just behind and behind what there is
		{[]api.Spec{r(2, 3)}, 10, []api.Span{sp(2, 4)}}, {[]api.Spec{r(8, 9)}, 10, []api.Span{sp(8, 10)}}, {[]api.Spec{r(8, 10)}, 10, []api.Span{sp(8, 10)}}, {[]api.Spec{r(9, 50)}, 10, []api.Span{sp(9, 10)}}, {[]api.Spec{r(9, 9)}, 10, []api.Span{sp(9, 10)}},
		{[]api.Spec{r(10, 10)}, 10, nil}, {[]api.Spec{r(10, 11)}, 10, nil}, {[]api.Spec{r(11, 20)}, 10, nil}, {[]api.Spec{r(0, most)}, 10, []api.Span{sp(0, 10)}}, {[]api.Spec{r(most, most)}, 10, nil},
		{[]api.Spec{r(0, 0)}, 1, []api.Span{sp(0, 1)}}, {[]api.Spec{r(0, 0)}, 10, []api.Span{sp(0, 1)}},
		{[]api.Spec{on(0)}, 10, []api.Span{sp(0, 10)}}, {[]api.Spec{on(9)}, 10, []api.Span{sp(9, 10)}}, {[]api.Spec{on(10)}, 10, nil}, {[]api.Spec{on(11)}, 10, nil}, {[]api.Spec{on(most)}, 10, nil},
		// the last bytes
		{[]api.Spec{last(1)}, 10, []api.Span{sp(9, 10)}}, {[]api.Spec{last(9)}, 10, []api.Span{sp(1, 10)}}, {[]api.Spec{last(10)}, 10, []api.Span{sp(0, 10)}}, {[]api.Spec{last(11)}, 10, []api.Span{sp(0, 10)}}, {[]api.Spec{last(most)}, 10, []api.Span{sp(0, 10)}}, {[]api.Spec{last(0)}, 10, nil},
		// no bytes at all, and no ranges
		{[]api.Spec{r(0, 0)}, 0, nil}, {[]api.Spec{on(0)}, 0, nil}, {[]api.Spec{last(0)}, 0, nil}, {[]api.Spec{last(5)}, 0, nil}, {right(), 0, nil},
		{nil, 10, nil}, {nil, 0, nil}, {[]api.Spec{}, 10, nil},
		// in order, and those that have none left out
		{[]api.Spec{last(2), r(10, 12), r(4, 20), last(0), r(0, 1), on(10), r(0, 1)}, 10, []api.Span{sp(8, 10), sp(4, 10), sp(0, 2), sp(0, 2)}},
		{[]api.Spec{on(12), last(0), r(10, 11)}, 10, nil},
		{[]api.Spec{on(0), last(3), r(api.MaxLength-1, most), on(api.MaxLength)}, api.MaxLength, []api.Span{sp(0, api.MaxLength), sp(api.MaxLength-3, api.MaxLength), sp(api.MaxLength-1, api.MaxLength)}},
	} {
		given := slices.Clone(c.l)
		if got, ok := spec.Resolve(c.l, c.have); !slices.Equal(got, c.want) || ok != (len(c.want) > 0) || !slices.Equal(c.l, given) {
			t.Error(c.l, c.have, got, ok)
		}
	}
}

func TestResolveOfSmallRanges(t *testing.T) {
	for have := int64(0); have < 6; have++ {
		for from := int64(-1); from < 8; from++ {
			for to := int64(-1); to < 8; to++ {
				x := r(from, to)
				if !spec.Right(x) {
					continue
				}
				l, ok := spec.Resolve([]api.Spec{x}, have)
				any := false
				for at := int64(0); at < 9; at++ {
					has := at < have && (from < 0 && at >= have-to || from >= 0 && at >= from && (to < 0 || at <= to))
					any = any || has
					if got := ok && span.Has(l[0], at); got != has {
						t.Error(x, have, l, at)
					}
				}
				if ok != any || ok && len(l) != 1 || !ok && len(l) != 0 {
					t.Error(x, have, l, ok)
				}
			}
		}
	}
}

// P4.1: Fold

func TestFold(t *testing.T) {
	for _, c := range []struct {
		l    []api.Span
		gap  int64
		want []api.Span
	}{
		{[]api.Span{sp(0, 5), sp(7, 10), sp(7, 10)}, 0, []api.Span{sp(0, 5), sp(7, 10)}},
		{[]api.Span{sp(0, 5), sp(7, 10), sp(7, 10)}, 2, []api.Span{sp(0, 10)}},
		{nil, 0, nil}, {nil, 5, nil}, {[]api.Span{sp(3, 9)}, 0, []api.Span{sp(3, 9)}}, {[]api.Span{sp(3, 9)}, -1, []api.Span{sp(3, 9)}}, {[]api.Span{sp(3, open)}, 9, []api.Span{sp(3, open)}},
		// a gap below 0 counts as 0: neighbours that touch are one, those with a byte between aren't
		{[]api.Span{sp(0, 2), sp(2, 4), sp(5, 6)}, 0, []api.Span{sp(0, 4), sp(5, 6)}}, {[]api.Span{sp(0, 2), sp(2, 4), sp(5, 6)}, -1, []api.Span{sp(0, 4), sp(5, 6)}}, {[]api.Span{sp(0, 2), sp(2, 4), sp(5, 6)}, math.MinInt64, []api.Span{sp(0, 4), sp(5, 6)}},
		{[]api.Span{sp(5, 9), sp(0, 6)}, -3, []api.Span{sp(0, 9)}}, {[]api.Span{sp(5, 9), sp(6, 7)}, 0, []api.Span{sp(5, 9)}}, {[]api.Span{sp(6, 7), sp(5, 9)}, 0, []api.Span{sp(5, 9)}},
		// just at the gap, and just above it
		{[]api.Span{sp(0, 2), sp(3, 4)}, 0, []api.Span{sp(0, 2), sp(3, 4)}}, {[]api.Span{sp(0, 2), sp(3, 4)}, 1, []api.Span{sp(0, 4)}}, {[]api.Span{sp(0, 2), sp(7, 9)}, 4, []api.Span{sp(0, 2), sp(7, 9)}}, {[]api.Span{sp(0, 2), sp(7, 9)}, 5, []api.Span{sp(0, 9)}}, {[]api.Span{sp(0, 2), sp(7, 9)}, 6, []api.Span{sp(0, 9)}},
		{[]api.Span{sp(open-1, open), sp(0, 1)}, open - 3, []api.Span{sp(open-1, open), sp(0, 1)}}, {[]api.Span{sp(open-1, open), sp(0, 1)}, open - 2, []api.Span{sp(0, open)}}, {[]api.Span{sp(open-1, open), sp(0, 1)}, math.MaxInt64, []api.Span{sp(0, open)}},
		// near only when others are one: 9-10 and 0-1 by all between; 2-3 within what the two ahead of it make
		{[]api.Span{sp(9, 10), sp(0, 1), sp(6, 7), sp(3, 4)}, 2, []api.Span{sp(0, 10)}}, {[]api.Span{sp(9, 10), sp(0, 1), sp(6, 7), sp(3, 4)}, 1, []api.Span{sp(9, 10), sp(0, 1), sp(6, 7), sp(3, 4)}},
		{[]api.Span{sp(0, 1), sp(4, 5), sp(1, 4)}, 0, []api.Span{sp(0, 5)}}, {[]api.Span{sp(0, 1), sp(5, 6), sp(2, 3)}, 2, []api.Span{sp(0, 6)}},
		// where the first of them stood
		{[]api.Span{sp(20, 30), sp(0, 4), sp(10, 12), sp(5, 9), sp(28, 40)}, 0, []api.Span{sp(20, 40), sp(0, 4), sp(10, 12), sp(5, 9)}},
		{[]api.Span{sp(20, 30), sp(0, 4), sp(10, 12), sp(5, 9), sp(28, 40)}, 1, []api.Span{sp(20, 40), sp(0, 12)}},
		{[]api.Span{sp(10, 12), sp(20, 30), sp(5, 9), sp(28, 40), sp(0, 4)}, 1, []api.Span{sp(0, 12), sp(20, 40)}},
		{[]api.Span{sp(8, 9), sp(4, 5), sp(0, 1)}, 0, []api.Span{sp(8, 9), sp(4, 5), sp(0, 1)}}, {[]api.Span{sp(4, 5), sp(8, 9), sp(0, 1), sp(8, 9), sp(4, 5)}, 0, []api.Span{sp(4, 5), sp(8, 9), sp(0, 1)}},
		{[]api.Span{sp(7, open), sp(0, 2), sp(3, 9)}, 0, []api.Span{sp(3, open), sp(0, 2)}},
	} {
		given := slices.Clone(c.l)
		if got := spec.Fold(c.l, c.gap); !slices.Equal(got, c.want) || !slices.Equal(c.l, given) {
			t.Error(c.l, c.gap, got)
		}
	}
}

// folded is the document's words: two that are near are made one, in the place of the first, till no two are near.
func folded(l []api.Span, gap int64) []api.Span {
	l = slices.Clone(l)
	for i := range l {
		for j := i + 1; j < len(l); j++ {
			if max(l[i].From, l[j].From)-min(l[i].To, l[j].To) <= max(gap, 0) {
				l[i] = sp(min(l[i].From, l[j].From), max(l[i].To, l[j].To))
				return folded(slices.Delete(l, j, j+1), gap)
			}
		}
	}
	return l
}

func TestFoldOfSmallSpans(t *testing.T) {
	var all []api.Span
	for _, from := range []int64{0, 2, 3, 5, 8, 9} {
		for _, size := range []int64{1, 2, 4} {
			all = append(all, sp(from, from+size))
		}
	}
	all = append(all, sp(7, open))
	for _, a := range all {
		for _, b := range all {
			for _, c := range all {
				for gap := int64(-1); gap < 5; gap++ {
					for _, l := range [][]api.Span{{a, b}, {a, b, c}, {c, sp(6, 7), a, b}} {
						if got, want := spec.Fold(l, gap), folded(l, gap); !slices.Equal(got, want) {
							t.Fatal(l, gap, got, want)
						}
					}
				}
			}
		}
	}
}

// As many spans as there may be of a request, many times, in many orders.
func TestFoldOfManySpans(t *testing.T) {
	for n := 1; n <= 100; n++ {
		var l []api.Span
		for i := range n {
			from := int64(i * i * 37 % 1009)
			l = append(l, sp(from, from+1+int64(i%5)))
		}
		for _, gap := range []int64{-1, 0, 1, 3, 10} {
			if got, want := spec.Fold(l, gap), folded(l, gap); !slices.Equal(got, want) {
				t.Fatal(n, gap, got, want)
			}
		}
	}
}

// P4.1: Cover

func TestCover(t *testing.T) {
	for _, c := range []struct {
		l    []api.Spec
		want string
		ok   bool
	}{
		{[]api.Spec{r(3, 9)}, "3-10", true}, {[]api.Spec{r(0, 0)}, "0-1", true}, {[]api.Spec{on(3)}, "3-", true}, {[]api.Spec{on(0)}, "0-", true},
		{[]api.Spec{r(2, 3), on(4)}, "2-", true}, {[]api.Spec{r(2, 3), on(5)}, "2-4,5-", true}, {[]api.Spec{on(9), r(6, 7), r(0, 1), r(1, 3)}, "0-4,6-8,9-", true}, {[]api.Spec{r(1, 1), r(1, 1)}, "1-2", true},
		{[]api.Spec{r(most, most), on(most)}, "999999999999999999-", true}, {[]api.Spec{r(most, most)}, "999999999999999999-1000000000000000000", true}, {[]api.Spec{r(0, most)}, "0-1000000000000000000", true},
		{nil, "none", false}, {[]api.Spec{}, "none", false},
		{[]api.Spec{last(5)}, "none", false}, {[]api.Spec{last(0)}, "none", false}, {[]api.Spec{last(most)}, "none", false}, {[]api.Spec{r(3, 9), last(5)}, "none", false}, {[]api.Spec{last(5), r(3, 9)}, "none", false}, {[]api.Spec{on(0), last(0), on(0)}, "none", false},
	} {
		given := slices.Clone(c.l)
		if got, ok := spec.Cover(c.l); got.Text() != c.want || ok != c.ok || !slices.Equal(c.l, given) {
			t.Error(c.l, got.Text(), ok)
		}
	}
	if got, ok := spec.Cover(specs(64)); !ok || !got.Same(ranges.Of(sp(0, 128))) {
		t.Error(got.Text(), ok)
	}
}

// What is covered of a number of bytes is what the ranges have of them.
func TestCoverAndResolve(t *testing.T) {
	for _, a := range right() {
		for _, b := range right() {
			l := []api.Spec{a, b}
			got, ok := spec.Cover(l)
			if ok != (a.From >= 0 && b.From >= 0) {
				t.Error(l, ok)
			}
			for _, have := range []int64{0, 1, 5, 10, api.MaxLength} {
				spans, _ := spec.Resolve(l, have)
				if ok && !got.And(ranges.Of(sp(0, have))).Same(ranges.Of(spans...)) {
					t.Error(l, have, got.Text(), spans)
				}
			}
		}
	}
}

// P4.1: Costly

func TestCostly(t *testing.T) {
	for _, c := range []struct {
		l    []api.Spec
		have int64
		most int
		want bool
	}{
		// just as many ranges as may be, and one more
		{specs(3), 100, 3, false}, {specs(3), 100, 2, true}, {specs(64), 1000, 64, false}, {specs(65), 1000, 64, true}, {specs(100), 1000, 100, false},
		{[]api.Spec{r(0, 0)}, 5, 1, false}, {[]api.Spec{r(0, 0)}, 5, 0, true}, {[]api.Spec{r(0, 0)}, 5, -1, true}, {[]api.Spec{r(0, 0)}, 5, math.MinInt64, true}, {[]api.Spec{r(0, 0)}, 5, math.MaxInt64, false},
		{nil, 5, 0, false}, {nil, 0, 0, false}, {nil, 5, -1, true},
		// ranges that have no byte count too
		{[]api.Spec{on(5), on(6), last(0)}, 5, 2, true}, {[]api.Spec{on(5), on(6), last(0)}, 5, 3, false},
		// just twice as many bytes as there are, and one more
		{[]api.Spec{on(0), on(0)}, 5, 9, false}, {[]api.Spec{on(0), on(0), r(1, 1)}, 5, 9, true}, {[]api.Spec{on(0), on(0), on(5)}, 5, 9, false}, {[]api.Spec{on(0), last(5), last(1)}, 5, 9, true}, {[]api.Spec{r(0, 90), last(90), last(0)}, 5, 9, false}, {[]api.Spec{r(0, 90), last(90), r(0, 0)}, 5, 9, true},
		{[]api.Spec{r(0, 3), r(0, 2), r(0, 2)}, 5, 9, false}, {[]api.Spec{r(0, 3), r(0, 2), r(0, 3)}, 5, 9, true}, {[]api.Spec{r(0, 0), r(0, 0)}, 1, 9, false}, {[]api.Spec{r(0, 0), r(0, 0), r(0, 0)}, 1, 9, true},
		{[]api.Spec{on(0), on(0)}, api.MaxLength, 9, false}, {[]api.Spec{on(0), on(0), last(1)}, api.MaxLength, 9, true},
		// of no bytes there are never more
		{[]api.Spec{on(0), last(5), r(0, 9)}, 0, 3, false}, {[]api.Spec{on(0), last(5), r(0, 9)}, 0, 2, true},
	} {
		given := slices.Clone(c.l)
		if got := spec.Costly(c.l, c.have, c.most); got != c.want || !slices.Equal(c.l, given) {
			t.Error(len(c.l), c.l, c.have, c.most, got)
		}
	}
}

// The bytes of so many ranges are more than a number of 64 bits tells.
func TestCostlyOfVeryManyRanges(t *testing.T) {
	l := make([]api.Spec, 1<<23)
	for i := range l {
		l[i] = on(0)
	}
	if !spec.Costly(l, api.MaxLength, len(l)) {
		t.Error(len(l))
	}
}

// What is answered may be changed: it shares nothing with the arguments.
func TestAnswersShareNothing(t *testing.T) {
	l := []api.Span{sp(0, 4), sp(9, 12), sp(20, open)}
	first, again := spec.Fold(l, 0), spec.Fold(l, 0)
	for i := range first {
		first[i] = sp(1, 2)
	}
	if !slices.Equal(l, again) || l[0] != sp(0, 4) {
		t.Error(l, again)
	}
	asked := []api.Spec{r(0, 3), on(9)}
	kept, _ := spec.Cover(asked)
	asked[0], asked[1] = on(0), on(0)
	if kept.Text() != "0-4,9-" {
		t.Error(kept.Text())
	}
}
