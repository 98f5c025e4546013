package date_test

import (
	"math"
	"strconv"
	"strings"
	"testing"
	"time"

	"mandoline/api"
	"mandoline/date"
)

const (
	lastTick   int64 = 253402300799
	daySeconds       = 86400
	// layout is a date's text, as the library's own calendar tells and reads it.
	layout = "Mon, 02 Jan 2006 15:04:05 GMT"
)

// examples is ticks with their texts: the document's, and the edges of days, months, years and all of them.
func examples() map[int64]string {
	return map[int64]string{
		784111777: "Sun, 06 Nov 1994 08:49:37 GMT", 951782400: "Tue, 29 Feb 2000 00:00:00 GMT",
		0: "Thu, 01 Jan 1970 00:00:00 GMT", 1: "Thu, 01 Jan 1970 00:00:01 GMT", 59: "Thu, 01 Jan 1970 00:00:59 GMT", 60: "Thu, 01 Jan 1970 00:01:00 GMT",
		3599: "Thu, 01 Jan 1970 00:59:59 GMT", 3600: "Thu, 01 Jan 1970 01:00:00 GMT", 86399: "Thu, 01 Jan 1970 23:59:59 GMT", 86400: "Fri, 02 Jan 1970 00:00:00 GMT",
		2678399: "Sat, 31 Jan 1970 23:59:59 GMT", 2678400: "Sun, 01 Feb 1970 00:00:00 GMT", 5097600: "Sun, 01 Mar 1970 00:00:00 GMT",
		31535999: "Thu, 31 Dec 1970 23:59:59 GMT", 31536000: "Fri, 01 Jan 1971 00:00:00 GMT", 68169600: "Tue, 29 Feb 1972 00:00:00 GMT", 94694399: "Sun, 31 Dec 1972 23:59:59 GMT",
		951868799: "Tue, 29 Feb 2000 23:59:59 GMT", 951868800: "Wed, 01 Mar 2000 00:00:00 GMT", 978307199: "Sun, 31 Dec 2000 23:59:59 GMT",
		2147483647: "Tue, 19 Jan 2038 03:14:07 GMT", 2147483648: "Tue, 19 Jan 2038 03:14:08 GMT", 4294967296: "Sun, 07 Feb 2106 06:28:16 GMT",
		4107542399: "Sun, 28 Feb 2100 23:59:59 GMT", 4107542400: "Mon, 01 Mar 2100 00:00:00 GMT",
		lastTick - 1: "Fri, 31 Dec 9999 23:59:58 GMT", lastTick: "Fri, 31 Dec 9999 23:59:59 GMT",
	}
}

// noTicks is numbers beside those that are ticks.
func noTicks() []int64 {
	return []int64{-1, -2, -86400, -86401, lastTick + 1, lastTick + 2, lastTick + 86400, api.Open, math.MinInt64, math.MinInt64 + 1, math.MaxInt64, math.MaxInt64 - 1}
}

// hasMore is the document's words on years, apart from the package.
func hasMore(year int) bool {
	if year%400 == 0 {
		return true
	}
	return year%4 == 0 && year%100 != 0
}

// length is how many days a month has.
func length(year, month int) int {
	switch month {
	case 4, 6, 9, 11:
		return 30
	case 2:
		if hasMore(year) {
			return 29
		}
		return 28
	}
	return 31
}

// eachDay goes through all days, one after another, with their first ticks.
func eachDay(see func(first int64, d date.Day)) {
	first, week := int64(0), 4
	for year := 1970; year <= 9999; year++ {
		for month := 1; month <= 12; month++ {
			for day := 1; day <= length(year, month); day++ {
				see(first, date.Day{Year: year, Month: month, Date: day, Week: week})
				first, week = first+daySeconds, (week+1)%7
			}
		}
	}
}

// P6.1: Leap

func TestLeap(t *testing.T) {
	for year, want := range map[int]bool{1900: false, 2000: true, 2100: false, 2004: true, 2001: false, 2002: false, 2003: false, 1970: false, 1972: true, 9996: true, 9999: false, 10000: true, 0: true, 4: true, 100: false, 400: true, 1: false, -1: false, -2: false, -3: false, -4: true, -100: false, -400: true, -2000: true, -1900: false, math.MinInt: true, math.MinInt + 1: false, math.MaxInt: false, math.MaxInt - 3: true} {
		if date.Leap(year) != want {
			t.Error(year)
		}
	}
	for year := -12000; year <= 12000; year++ {
		if date.Leap(year) != hasMore(year) {
			t.Error(year)
		}
	}
}

// P6.1: Of

func TestOf(t *testing.T) {
	for _, c := range []struct {
		tick   int64
		d      date.Day
		second int
	}{
		{0, date.Day{Year: 1970, Month: 1, Date: 1, Week: 4}, 0}, {86399, date.Day{Year: 1970, Month: 1, Date: 1, Week: 4}, 86399}, {86400, date.Day{Year: 1970, Month: 1, Date: 2, Week: 5}, 0},
		{784111777, date.Day{Year: 1994, Month: 11, Date: 6, Week: 0}, 31777}, {951782400, date.Day{Year: 2000, Month: 2, Date: 29, Week: 2}, 0},
		{31535999, date.Day{Year: 1970, Month: 12, Date: 31, Week: 4}, 86399}, {94694399, date.Day{Year: 1972, Month: 12, Date: 31, Week: 0}, 86399}, {lastTick, date.Day{Year: 9999, Month: 12, Date: 31, Week: 5}, 86399},
	} {
		if d, second := date.Of(c.tick); d != c.d || second != c.second {
			t.Error(c.tick, d, second)
		}
	}
	for _, tick := range noTicks() {
		if d, second := date.Of(tick); d != (date.Day{}) || second != 0 {
			t.Error(tick, d, second)
		}
	}
}

// P6.1 and P6.2: each day is that of its first tick, of its last one and of one between, and these are its ticks; days come one after another.
func TestEachDay(t *testing.T) {
	days := 0
	eachDay(func(first int64, d date.Day) {
		days++
		for _, second := range []int{0, days % daySeconds, daySeconds - 1} {
			if got, s := date.Of(first + int64(second)); got != d || s != second {
				t.Error(first, second, got, s)
			}
			if tick, e := date.Tick(d, second); tick != first+int64(second) || e != api.OK {
				t.Error(d, second, tick, e)
			}
		}
	})
	if int64(days)*daySeconds != lastTick+1 {
		t.Error(days)
	}
}

// P6.1: Tick

func TestTick(t *testing.T) {
	for _, c := range []struct {
		d      date.Day
		second int
		want   int64
	}{
		{date.Day{Year: 1970, Month: 1, Date: 1}, 0, 0}, {date.Day{Year: 1970, Month: 1, Date: 1}, 86399, 86399}, {date.Day{Year: 1994, Month: 11, Date: 6}, 31777, 784111777},
		{date.Day{Year: 2000, Month: 2, Date: 29}, 0, 951782400}, {date.Day{Year: 9999, Month: 12, Date: 31}, 86399, lastTick}, {date.Day{Year: 2100, Month: 3, Date: 1}, 0, 4107542400},
	} {
		// the day of the week plays no part
		for _, week := range []int{0, 1, 4, 6, 7, -1, math.MinInt, math.MaxInt} {
			c.d.Week = week
			if tick, e := date.Tick(c.d, c.second); tick != c.want || e != api.OK {
				t.Error(c.d, c.second, tick, e)
			}
		}
	}
}

func refusedDay(t *testing.T, d date.Day, second int) {
	t.Helper()
	if tick, e := date.Tick(d, second); tick != 0 || e != api.ErrArg {
		t.Error(d, second, tick, e)
	}
}

func TestTickRefuses(t *testing.T) {
	good := date.Day{Year: 2000, Month: 1, Date: 1, Week: 6}
	far := []int{math.MinInt, math.MinInt + 1, math.MinInt32, -10000, -1, math.MaxInt32, math.MaxInt - 1, math.MaxInt}
	for _, n := range far {
		refusedDay(t, date.Day{Year: n, Month: 1, Date: 1}, 0)
		refusedDay(t, date.Day{Year: 2000, Month: n, Date: 1}, 0)
		refusedDay(t, date.Day{Year: 2000, Month: 1, Date: n}, 0)
		refusedDay(t, good, n)
	}
	for _, year := range []int{0, 1, 70, 1900, 1968, 1969, 10000, 10001} {
		refusedDay(t, date.Day{Year: year, Month: 1, Date: 1}, 0)
	}
	for _, month := range []int{0, 13, 14} {
		refusedDay(t, date.Day{Year: 2000, Month: month, Date: 1}, 0)
	}
	for _, second := range []int{86400, 86401, 172800} {
		refusedDay(t, good, second)
	}
	for _, d := range []date.Day{{}, {Week: 4}, {Year: 2000}, {Year: 2000, Month: 1}, {Month: 1, Date: 1}, {Year: 2000, Date: 1}} {
		refusedDay(t, d, 0)
	}
}

// Each month of each year has as many days as it has, and none ahead of them or behind.
func TestTickOfEachMonthsEnds(t *testing.T) {
	for year := 1970; year <= 9999; year++ {
		for month := 1; month <= 12; month++ {
			n := length(year, month)
			for _, day := range []int{0, n + 1, n + 2, 32} {
				refusedDay(t, date.Day{Year: year, Month: month, Date: day}, 0)
			}
			for _, day := range []int{1, n} {
				if _, e := date.Tick(date.Day{Year: year, Month: month, Date: day}, 0); e != api.OK {
					t.Error(year, month, day, e)
				}
			}
			refusedDay(t, date.Day{Year: year, Month: month, Date: 1}, -1)
			refusedDay(t, date.Day{Year: year, Month: month, Date: 1}, daySeconds)
		}
	}
}

// P6.1: Text

func TestText(t *testing.T) {
	for tick, want := range examples() {
		if s, e := date.Text(tick); s != want || e != api.OK {
			t.Error(tick, s, e)
		}
	}
	for _, tick := range noTicks() {
		if s, e := date.Text(tick); s != "" || e != api.ErrArg {
			t.Error(tick, s, e)
		}
	}
}

// P6.1 and P6.2: what is told is what the library's own calendar tells, and is read as it was.
func checkTold(t *testing.T, tick int64) {
	t.Helper()
	s, e := date.Text(tick)
	if want := time.Unix(tick, 0).UTC().Format(layout); s != want || e != api.OK {
		t.Error(tick, s, e)
	}
	if x, e := date.Parse(s); x != tick || e != api.OK {
		t.Error(tick, s, x, e)
	}
}

func TestToldAndRead(t *testing.T) {
	// all ticks of a day and more, at either end, and about February's last day
	for _, first := range []int64{0, 951782400 - 1000, lastTick - 90000} {
		for n := range int64(90000) {
			checkTold(t, first+n)
		}
	}
	// a tick of some days, another one each time: the step is no whole number of minutes, and a prime
	for tick := int64(0); tick <= lastTick; tick += 1000003 {
		checkTold(t, tick)
	}
}

// P6.1: Parse

func TestParse(t *testing.T) {
	for want, s := range examples() {
		if x, e := date.Parse(s); x != want || e != api.OK {
			t.Error(s, x, e)
		}
	}
}

func refused(t *testing.T, s string) {
	t.Helper()
	if x, e := date.Parse(s); x != 0 || e != api.ErrForm {
		t.Errorf("%.60q: %v %v", s, x, e)
	}
}

func TestParseRefuses(t *testing.T) {
	for _, s := range []string{
		"", " ", "GMT", "0", "784111777", "Sun", "Sun, 06 Nov 1994", "1994-11-06T08:49:37Z",
		// the other forms of dates
		"Sunday, 06-Nov-94 08:49:37 GMT", "Sun Nov  6 08:49:37 1994", "06 Nov 1994 08:49:37 GMT", "Sun, 06 Nov 94 08:49:37 GMT", "Sun, 06 Nov 1994 08:49 GMT",
		// blanks and what stands about
		" Sun, 06 Nov 1994 08:49:37 GMT", "Sun, 06 Nov 1994 08:49:37 GMT ", "Sun, 06 Nov 1994 08:49:37 GMT\n", "Sun,06 Nov 1994 08:49:37 GMT", "Sun,  06 Nov 1994 08:49:37 GMT", "Sun, 06\tNov 1994 08:49:37 GMT", "Sun, 06 Nov 1994 08:49:37  GMT", "Sun, 06 Nov 1994 08:49:37GMT", "Sun, 06 Nov 1994 08:49:37 GM", "Sun, 06 Nov 1994 08:49:37 GMTT", "Sun, 06 Nov 1994 08:49:37", "\x00Sun, 06 Nov 1994 08:49:37 GMT",
		// other signs between
		"Sun; 06 Nov 1994 08:49:37 GMT", "Sun, 06-Nov-1994 08:49:37 GMT", "Sun, 06 Nov 1994 08-49-37 GMT", "Sun, 06 Nov 1994 08.49.37 GMT", "Sun, 06 Nov 1994T08:49:37 GMT", "Sun, 06 Nov 1994 08:49:37\u00a0GMT",
		// other letters, and others' names
		"sun, 06 Nov 1994 08:49:37 GMT", "SUN, 06 Nov 1994 08:49:37 GMT", "Sun, 06 nov 1994 08:49:37 GMT", "Sun, 06 NOV 1994 08:49:37 GMT", "Sun, 06 Nov 1994 08:49:37 gmt", "Sun, 06 Nov 1994 08:49:37 UTC", "Sun, 06 Nov 1994 08:49:37 UT ", "Sun, 06 Nov 1994 08:49:37 +00", "Sun, 06 Nvm 1994 08:49:37 GMT", "Sun, 06 11  1994 08:49:37 GMT", "Son, 06 Nov 1994 08:49:37 GMT", "Sun, 06 Mai 1994 08:49:37 GMT", "   , 06 Nov 1994 08:49:37 GMT", "Sun, 06     1994 08:49:37 GMT",
		// numbers in another shape
		"Sun, 6 Nov 1994 08:49:37 GMT", "Sun,  6 Nov 1994 08:49:37 GMT", "Sun, +6 Nov 1994 08:49:37 GMT", "Sun, -6 Nov 1994 08:49:37 GMT", "Sun, 006 Nov 1994 08:49:37 GMT", "Sun, 06 Nov 1994 8:49:37 GMT", "Sun, 06 Nov 1994 +8:49:37 GMT", "Sun, 06 Nov 1994  8:49:37 GMT", "Sun, 06 Nov 1994 08:-9:37 GMT", "Sun, 06 Nov +994 08:49:37 GMT", "Sun, 06 Nov 0x7c 08:49:37 GMT", "Sun, 06 Nov 1994 0a:49:37 GMT", "Sun, 06 Nov 1994 08:49:1e GMT", "Sun, 06 Nov 1_94 08:49:37 GMT", "Sun, \u0660\u0666 Nov 1994 08:49:37 GMT", "Sun, 06 Nov 1994 08:49:\u0663\u0667 GMT",
		// hours, minutes and seconds that are none, also where they tell one more of what is ahead
		"Sun, 06 Nov 1994 24:00:00 GMT", "Sat, 05 Nov 1994 24:00:00 GMT", "Sun, 06 Nov 1994 99:49:37 GMT", "Sun, 06 Nov 1994 08:60:00 GMT", "Sun, 06 Nov 1994 08:60:37 GMT", "Sun, 06 Nov 1994 08:49:60 GMT", "Sun, 06 Nov 1994 08:59:60 GMT", "Sun, 06 Nov 1994 00:99:99 GMT", "Sun, 06 Nov 1994 23:59:60 GMT", "Sun, 06 Nov 1994 23:60:00 GMT",
		// days that are none, with the day of the week that they would have
		"Sun, 00 Nov 1994 08:49:37 GMT", "Mon, 00 Jan 2000 00:00:00 GMT", "Fri, 00 Jan 2000 00:00:00 GMT", "Thu, 31 Nov 1994 00:00:00 GMT", "Thu, 32 Dec 1970 00:00:00 GMT", "Fri, 32 Dec 1970 00:00:00 GMT", "Wed, 30 Feb 2000 00:00:00 GMT", "Mon, 29 Feb 2100 00:00:00 GMT", "Tue, 29 Feb 2100 00:00:00 GMT", "Sun, 29 Feb 1970 00:00:00 GMT", "Thu, 99 Jan 1970 00:00:00 GMT",
		// years that are none
		"Wed, 31 Dec 1969 23:59:59 GMT", "Thu, 01 Jan 1900 00:00:00 GMT", "Mon, 01 Jan 1900 00:00:00 GMT", "Sat, 01 Jan 0000 00:00:00 GMT", "Sat, 01 Jan 10000 00:00:00 GMT", "Sat, 1 Jan 10000 00:00:00 GMT",
		// two at once, and long ones
		"Sun, 06 Nov 1994 08:49:37 GMT, Sun, 06 Nov 1994 08:49:37 GMT", strings.Repeat("Sun, 06 Nov 1994 08:49:37 GMT", 1000), strings.Repeat(" ", 29), strings.Repeat("0", 29), strings.Repeat("\xff", 29), strings.Repeat("9", api.MaxText+1),
	} {
		refused(t, s)
	}
}

// readBy is the tick that the library's own calendar reads of what it tells again just so; false: there is none.
func readBy(s string) (int64, bool) {
	x, err := time.Parse(layout, s)
	if err != nil || x.Format(layout) != s || x.Year() < 1970 || x.Year() > 9999 {
		return 0, false
	}
	return x.Unix(), true
}

func checkRead(t *testing.T, s string) {
	t.Helper()
	want, ok := readBy(s)
	if !ok {
		refused(t, s)
	} else if x, e := date.Parse(s); x != want || e != api.OK {
		t.Errorf("%q: %v %v", s, x, e)
	}
}

// What is read is a date's text, and nothing else: of all texts that differ from one in a byte, left out, put in or another one.
func TestParseOfTextsThatDifferInAByte(t *testing.T) {
	for _, s := range examples() {
		for i := range len(s) + 1 {
			for c := range 0x100 {
				refused(t, s[:i]+string([]byte{byte(c)})+s[i:])
			}
			if i == len(s) {
				break
			}
			refused(t, s[:i])
			refused(t, s[:i]+s[i+1:])
			for c := range 0x100 {
				checkRead(t, s[:i]+string([]byte{byte(c)})+s[i+1:])
			}
		}
	}
}

// Of seven days of the week a date has one; of the months and dates about it, those that are.
func TestParseOfEachDayOfTheWeek(t *testing.T) {
	weeks := []string{"Sun", "Mon", "Tue", "Wed", "Thu", "Fri", "Sat"}
	months := []string{"Jan", "Feb", "Mar", "Apr", "May", "Jun", "Jul", "Aug", "Sep", "Oct", "Nov", "Dec"}
	for _, year := range []int{1969, 1970, 1972, 2000, 2023, 2100, 9999} {
		for _, month := range months {
			for day := range 35 {
				read := 0
				for _, week := range weeks {
					s := week + ", " + strconv.Itoa(day/10) + strconv.Itoa(day%10) + " " + month + " " + strconv.Itoa(year) + " 23:59:59 GMT"
					checkRead(t, s)
					if _, e := date.Parse(s); e == api.OK {
						read++
					}
				}
				if read > 1 {
					t.Error(year, month, day, read)
				}
			}
		}
	}
}

// Of hours, minutes and seconds, from 00 to 99 each, those are read that a day has.
func TestParseOfEachTimeOfADay(t *testing.T) {
	two := func(n int) string { return strconv.Itoa(n/10) + strconv.Itoa(n%10) }
	read := 0
	for h := range 100 {
		for m := range 100 {
			for s := range 100 {
				x, e := date.Parse("Sun, 06 Nov 1994 " + two(h) + ":" + two(m) + ":" + two(s) + " GMT")
				if h > 23 || m > 59 || s > 59 {
					if x != 0 || e != api.ErrForm {
						t.Error(h, m, s, x, e)
					}
					continue
				}
				if x != 784080000+int64(read) || e != api.OK {
					t.Error(h, m, s, x, e)
				}
				read++
			}
		}
	}
	if read != daySeconds {
		t.Error(read)
	}
}

// P6.2: a later tick's day is no earlier one.
func TestLaterTicksHaveNoEarlierDays(t *testing.T) {
	last := 0
	for tick := int64(0); tick <= lastTick; tick += 40009 {
		d, _ := date.Of(tick)
		now := (d.Year*12+d.Month)*31 + d.Date
		if now < last {
			t.Error(tick, d)
		}
		last = now
	}
}
