package control_test

import (
	"math"
	"slices"
	"strconv"
	"strings"
	"testing"
	"unsafe"

	"mandoline/api"
	"mandoline/control"
)

const most int64 = 1 << 40

// with is a rule that says nothing but what is put there.
func with(change func(*control.Rule)) control.Rule {
	r := control.Rule{Max: -1, Shared: -1, While: -1, Error: -1}
	change(&r)
	return r
}

// nothing is a rule that says nothing.
func nothing() control.Rule { return with(func(*control.Rule) {}) }

// ofMax and what follows it are rules that say one thing.
func ofMax(n int64) control.Rule   { return with(func(r *control.Rule) { r.Max = n }) }
func ofShare(n int64) control.Rule { return with(func(r *control.Rule) { r.Shared = n }) }
func ofWhile(n int64) control.Rule { return with(func(r *control.Rule) { r.While = n }) }
func ofError(n int64) control.Rule { return with(func(r *control.Rule) { r.Error = n }) }
func noStore() control.Rule        { return with(func(r *control.Rule) { r.NoStore = true }) }
func noCache() control.Rule        { return with(func(r *control.Rule) { r.NoCache = true }) }
func private() control.Rule        { return with(func(r *control.Rule) { r.Private = true }) }

// said is a directive's name with the rule that it says: of a number, or of whatever.
type said struct {
	name string
	of   func(n int64) control.Rule
}

// counts is the directives that say a number.
func counts() []said {
	return []said{{"max-age", ofMax}, {"s-maxage", ofShare}, {"stale-while-revalidate", ofWhile}, {"stale-if-error", ofError}}
}

// flags is the directives that say something with any argument.
func flags() []said {
	return []said{
		{"no-store", func(int64) control.Rule { return noStore() }},
		{"no-cache", func(int64) control.Rule { return noCache() }},
		{"private", func(int64) control.Rule { return private() }},
	}
}

// cases is a name with its letters' case changed in some ways.
func cases(name string) []string {
	mixed := []byte(name)
	for i := range mixed {
		if i%2 == 0 {
			mixed[i] = strings.ToUpper(name)[i]
		}
	}
	return []string{name, strings.ToUpper(name), strings.ToUpper(name[:1]) + name[1:], string(mixed)}
}

func parsed(t *testing.T, want control.Rule, values ...string) {
	t.Helper()
	if got := control.Parse(values...); got != want {
		t.Errorf("%.200q: %+v, not %+v", values, got, want)
	}
}

// P9.1: ordinary values

func TestParseOfNothing(t *testing.T) {
	parsed(t, nothing())
	for _, values := range [][]string{{""}, {"", ""}, {","}, {",,, ,\t"}, {" \t"}, {"="}, {"=5"}, {"public"}, {"must-revalidate, no-transform", "immutable"}, {"\""}, {"\"\""}, {"5"}, {"=,="}} {
		parsed(t, nothing(), values...)
	}
}

// numbers is texts that are numbers, with these.
func numbers() map[string]int64 {
	return map[string]int64{
		"0": 0, "1": 1, "5": 5, "9": 9, "10": 10, "007": 7, "00": 0, "3600": 3600, "1234567890": 1234567890, strings.Repeat("0", 5000) + "31": 31, strings.Repeat("0", 70000): 0,
		"1099511627775": most - 1, "1099511627776": most, "1099511627777": most, "1099511627785": most, "10995116277760": most, "9999999999999": most,
		"9223372036854775807": most, "9223372036854775808": most, "18446744073709551615": most, "18446744073709551616": most, "18446744073709551621": most, "99999999999999999999": most, strings.Repeat("9", 5000): most, "1" + strings.Repeat("0", 5000): most, "340282366920938463463374607431768211456": most,
	}
}

// noNumbers is texts that are none; none of them has a comma, nor quotes about it.
func noNumbers() []string {
	return []string{"", "-1", "+1", "-0", "1.0", "1e3", "0x5", "5s", "s5", "1_000", "5 5", "x", "\u0665", "\uff15", "5\u00a0", "5\n", "\r5", "5\x00", "5=4", "=5", "'5'", "\"5", "5\"", "5;", "/", ":", "5/", "5:", "\xff"}
}

func TestParseOfNumbers(t *testing.T) {
	for _, d := range counts() {
		for _, name := range cases(d.name) {
			for text, n := range numbers() {
				for _, value := range []string{name + "=" + text, " \t" + name + "=" + text + "\t ", name + "=\"" + text + "\"", "," + name + "=" + text + ",", "public, " + name + "=" + text + ",x"} {
					parsed(t, d.of(n), value)
				}
			}
			for _, text := range noNumbers() {
				parsed(t, nothing(), name+"="+text)
				parsed(t, d.of(3), name+"=3", name+"="+text)
				parsed(t, d.of(3), name+"="+text, name+"=3")
			}
			// blanks belong to the name, or the argument, where they stand about the =, or within quotes
			for _, value := range []string{name, name + "= 5", name + " =5", name + "\t=5", name + "=\"5 \"", name + "=\" 5\"", name + "=\"\"5\"\"", name + "=\"\"", name + "=\"", name + " 5", name + ":5", name + "=5;", name + "==5", name + "=5 =", name + "=\"5\"x", name + "=x\"5\"", name + "=\"5\" \"\""} {
				parsed(t, nothing(), value)
			}
		}
	}
}

func TestParseOfFlags(t *testing.T) {
	for _, d := range flags() {
		for _, name := range cases(d.name) {
			for _, argument := range []string{"", "=", "=1", "=0", "=false", "=\"Set-Cookie\"", "=\"a, b\"", "=\"", "==", "= ", "=a=b", "=x y", "=\"a\"b\"c\""} {
				parsed(t, d.of(0), name+argument)
				parsed(t, d.of(0), "x, \t"+name+argument+"\t ")
			}
			for _, value := range []string{name + " ", "\t" + name, name + "," + name, "," + name, name + ", public"} {
				parsed(t, d.of(0), value)
			}
		}
	}
}

// names that are none of those that say something
func TestParseOfOtherNames(t *testing.T) {
	var known []string
	for _, d := range slices.Concat(counts(), flags()) {
		known = append(known, d.name)
	}
	for _, name := range known {
		for _, other := range []string{name + "x", "x" + name, name[1:], name[:len(name)-1], strings.ReplaceAll(name, "-", "_") + "_", strings.ReplaceAll(name+"-", "-", "--"), name + " x", "x " + name, "\"" + name + "\"", "\"" + name, name + "\"", name + " =x", name + ";", "'" + name + "'", name + "\u00a0", "\u2003" + name, name + "\n", "\r" + name, name + "\x00", name + "\v", "\f" + name} {
			parsed(t, nothing(), other)
			parsed(t, nothing(), other+"=5")
		}
		// what is a small letter of these, or like one, elsewhere alone
		for _, pair := range [][2]string{{"i", "\u0130"}, {"i", "\u0131"}, {"s", "\u017f"}, {"a", "\uff41"}, {"-", "\u2010"}, {"-", "_"}, {"-", "\r"}, {"e", "\u00e9"}} {
			if other := strings.ReplaceAll(name, pair[0], pair[1]); other != name {
				parsed(t, nothing(), other)
				parsed(t, nothing(), other+"=5")
			}
		}
		// bytes that lie about the letters
		for _, b := range []byte{'@', '[', '`', '{', 'A' + 0x80, 'M' - 0x40} {
			parsed(t, nothing(), string(b)+name[1:]+"=5")
		}
	}
}

// P9.1: what is parted, and where

func TestParseOfQuotes(t *testing.T) {
	for value, want := range map[string]control.Rule{
		"x=\"a, no-store\"":                         nothing(),
		"x=\"a, no-store\", no-cache":               noCache(),
		"\"no-store":                                nothing(),
		"\"no-store, private, max-age=5":            nothing(),
		"x\", no-store, \", private":                private(),
		"\", no-store, \"no-cache, private":         private(),
		"\"\", private":                             private(),
		"\"\"\", private":                           nothing(),
		"\"\"\"\", private":                         private(),
		"\"a\\\", private, \"":                      private(), // a \ is a byte like others
		"x=\"\\\", private, x=\"\\\"":               private(),
		"private=\"x, no-store":                     private(),
		"private\", no-store\"":                     nothing(),
		"private=\", no-store, \", no-cache":        with(func(r *control.Rule) { r.Private, r.NoCache = true, true }),
		"max-age=\"5, 6\"":                          nothing(),
		"max-age=\"5\", max-age=\"4":                ofMax(5),
		"max-age=\"5,\"4, s-maxage=3":               ofShare(3),
		"MAX-AGE=9, private":                        with(func(r *control.Rule) { r.Max, r.Private = 9, true }),
		"max-age=\"5\"":                             ofMax(5),
		"max-age=x":                                 nothing(),
		"max-age=3=4":                               nothing(),
		"max-age=5,s-maxage=4,no-store":             with(func(r *control.Rule) { r.Max, r.Shared, r.NoStore = 5, 4, true }),
		"no-cache=\"a\",private=\"b,c\",max-age=00": with(func(r *control.Rule) { r.NoCache, r.Private, r.Max = true, true, 0 }),
	} {
		parsed(t, want, value)
	}
	// quotes end with their value
	parsed(t, private(), "\"", "private")
	parsed(t, private(), "x=\"a", "private", "no-store\"")
	parsed(t, private(), "private", "\"", "\"no-store")
}

func TestParseTakesTheLeast(t *testing.T) {
	for _, d := range counts() {
		for _, x := range []struct {
			values []string
			want   int64
		}{
			{[]string{"9", "12"}, 9}, {[]string{"12", "9"}, 9}, {[]string{"0", "1"}, 0}, {[]string{"1", "0"}, 0}, {[]string{"7", "007"}, 7}, {[]string{"3", "2", "1", "2", "3"}, 1},
			{[]string{"99999999999999", "1099511627775"}, most - 1}, {[]string{"99999999999999", "1099511627777"}, most}, {[]string{"1099511627775", "99999999999999999999999"}, most - 1}, {[]string{"18446744073709551617", "5"}, 5}, {[]string{"5", "18446744073709551617"}, 5},
			{[]string{"x", "4", ""}, 4}, {[]string{"\"8\"", "9"}, 8}, {[]string{"-1", "4"}, 4}, {[]string{"0", "-1"}, 0},
		} {
			var directives []string
			for _, n := range x.values {
				directives = append(directives, d.name+"="+n)
			}
			parsed(t, d.of(x.want), directives...)
			parsed(t, d.of(x.want), strings.Join(directives, ","))
			parsed(t, d.of(x.want), strings.Join(directives[:1], ","), strings.Join(directives[1:], " ,\t"))
		}
	}
	parsed(t, control.Rule{Max: 1, Shared: 2, While: 3, Error: 4}, "max-age=1, s-maxage=2, stale-while-revalidate=3, stale-if-error=4")
	parsed(t, control.Rule{Max: 8, Shared: 7, While: 6, Error: 5, NoStore: true, NoCache: true, Private: true}, "stale-if-error=5, stale-while-revalidate=6", "s-maxage=7, max-age=8", "private", "no-cache, no-store")
}

// words is the document's words on what values say, byte by byte, apart from the package.
func words(values []string) control.Rule {
	r := nothing()
	for _, value := range values {
		var part []byte
		quoted := false
		for i := 0; i <= len(value); i++ {
			if i < len(value) && (value[i] != ',' || quoted) {
				part = append(part, value[i])
				if value[i] == '"' {
					quoted = !quoted
				}
				continue
			}
			for len(part) > 0 && (part[0] == 0x20 || part[0] == 9) {
				part = part[1:]
			}
			for len(part) > 0 && (part[len(part)-1] == 0x20 || part[len(part)-1] == 9) {
				part = part[:len(part)-1]
			}
			one(&r, string(part))
			part = nil
		}
	}
	return r
}

// one puts to a rule what a directive says.
func one(r *control.Rule, directive string) {
	name, argument := directive, ""
	if at := strings.Index(directive, "="); at >= 0 {
		name, argument = directive[:at], directive[at+1:]
	}
	if len(argument) >= 2 && strings.HasPrefix(argument, "\"") && strings.HasSuffix(argument, "\"") {
		argument = argument[1 : len(argument)-1]
	}
	number := int64(-1)
	if argument != "" && strings.Trim(argument, "0123456789") == "" {
		n, err := strconv.ParseInt(argument, 10, 64)
		if err != nil || n > most {
			n = most
		}
		number = n
	}
	for at, d := range map[*int64]string{&r.Max: "max-age", &r.Shared: "s-maxage", &r.While: "stale-while-revalidate", &r.Error: "stale-if-error"} {
		if strings.EqualFold(d, name) && number >= 0 && (*at < 0 || number < *at) {
			*at = number
		}
	}
	for at, d := range map[*bool]string{&r.NoStore: "no-store", &r.NoCache: "no-cache", &r.Private: "private"} {
		if strings.EqualFold(d, name) {
			*at = true
		}
	}
}

// together is all texts of so many pieces.
func together(pieces []string, n int) []string {
	texts := []string{""}
	for range n {
		var next []string
		for _, text := range texts {
			for _, piece := range pieces {
				next = append(next, text+piece)
			}
		}
		texts = next
	}
	return texts
}

func TestParseOfAllTexts(t *testing.T) {
	pieces := []string{"max-age", "=", "\"", ",", " ", "5", "no-store"}
	seen := map[control.Rule]int{}
	for n := range 7 {
		for _, text := range together(pieces, n) {
			want := words([]string{text})
			seen[want]++
			parsed(t, want, text)
		}
	}
	if len(seen) != 8 { // nothing, 5, 55, 555, no-store, and that with 5, 55 and 555
		t.Error(seen)
	}
}

func TestParseOfManyValues(t *testing.T) {
	some := []string{"", "max-age=9", "max-age=\"8\",", "Max-Age=7, no-store", "s-maxage=1", "s-maxage=0 , x", "stale-if-error=2", "stale-while-revalidate=3,stale-while-revalidate=2", "\"", "no-cache=\"a", "private, \"b", "max-age", "max-age=-7", ",,"}
	for _, a := range some {
		for _, b := range some {
			for _, c := range some {
				values := []string{a, b, c}
				given := slices.Clone(values)
				parsed(t, words(values), values...)
				if !slices.Equal(values, given) {
					t.Fatal("written into", given)
				}
			}
		}
	}
	parsed(t, with(func(r *control.Rule) { r.Max, r.NoCache = 1, true }), slices.Concat(slices.Repeat([]string{"max-age=2"}, 10000), []string{"max-age=1"}, slices.Repeat([]string{"no-cache, max-age=3"}, 10000))...)
	parsed(t, ofWhile(1), strings.Repeat("stale-while-revalidate=2,", 20000)+"stale-while-revalidate=1"+strings.Repeat(",", 20000))
}

// P9.2

func TestText(t *testing.T) {
	for _, x := range []struct {
		r    control.Rule
		want string
	}{
		{nothing(), ""}, {control.Rule{}, "max-age=0, s-maxage=0, stale-while-revalidate=0, stale-if-error=0"},
		{noStore(), "no-store"}, {noCache(), "no-cache"}, {private(), "private"},
		{ofMax(0), "max-age=0"}, {ofShare(1), "s-maxage=1"}, {ofWhile(20), "stale-while-revalidate=20"}, {ofError(300), "stale-if-error=300"},
		{ofMax(most - 1), "max-age=1099511627775"}, {ofShare(most), "s-maxage=1099511627776"}, {ofWhile(most + 1), "stale-while-revalidate=1099511627776"}, {ofError(math.MaxInt64), "stale-if-error=1099511627776"}, {ofMax(api.Open), "max-age=1099511627776"},
		{ofMax(-2), ""}, {ofShare(math.MinInt64), ""}, {ofWhile(-most), ""}, {ofError(-300), ""},
		{control.Rule{Max: 4, Shared: 3, While: 2, Error: 1, NoStore: true, NoCache: true, Private: true}, "no-store, no-cache, private, max-age=4, s-maxage=3, stale-while-revalidate=2, stale-if-error=1"},
		{control.Rule{Max: -1, Shared: 0, While: -7, Error: 5, Private: true}, "private, s-maxage=0, stale-if-error=5"},
		{control.Rule{Max: 5, Shared: -1, While: 0, Error: -1, NoStore: true}, "no-store, max-age=5, stale-while-revalidate=0"},
		{control.Rule{Max: -1, Shared: -1, While: -1, Error: -1, NoCache: true, Private: true}, "no-cache, private"},
	} {
		if got := control.Text(x.r); got != x.want {
			t.Errorf("%+v: %q, not %q", x.r, got, x.want)
		}
	}
}

// P9.3

// known is what is known of a version, with ticks and Keep.
func known(fresh, while, failed int64, keep bool) api.Meta {
	return api.Meta{Tag: api.Tag{Text: "a", Weak: true}, Modified: 9, Length: -1, Have: 7, Fresh: fresh, While: while, Error: failed, Keys: []string{"k", "l"}, Tenant: "t", Keep: keep}
}

// alike is whether two versions' Metas are the same; an empty list and no list are one.
func alike(a, b api.Meta) bool {
	return a.Tag == b.Tag && a.Modified == b.Modified && a.Length == b.Length && a.Have == b.Have && a.Fresh == b.Fresh && a.While == b.While && a.Error == b.Error && slices.Equal(a.Keys, b.Keys) && a.Tenant == b.Tenant && a.Keep == b.Keep
}

func TestApply(t *testing.T) {
	none := known(0, 0, 0, true)
	for _, x := range []struct {
		r    control.Rule
		want api.Meta
	}{
		{nothing(), none}, {control.Rule{}, none},
		{ofMax(5), known(5, 0, 0, true)}, {ofShare(5), known(5, 0, 0, true)}, {ofWhile(5), known(0, 5, 0, true)}, {ofError(5), known(0, 0, 5, true)},
		{ofMax(0), none}, {ofShare(0), none}, {ofWhile(0), none}, {ofError(0), none},
		{ofMax(-2), none}, {ofShare(math.MinInt64), none}, {ofWhile(-2), none}, {ofError(-most), none},
		{control.Rule{Max: 5, Shared: 3, While: -1, Error: -1}, known(3, 0, 0, true)}, {control.Rule{Max: 3, Shared: 5, While: -1, Error: -1}, known(5, 0, 0, true)}, {control.Rule{Max: 5, Shared: 0, While: -1, Error: -1}, none}, {control.Rule{Max: 5, Shared: -9, While: -1, Error: -1}, known(5, 0, 0, true)},
		{ofMax(most), known(most, 0, 0, true)}, {ofMax(most + 1), known(most, 0, 0, true)}, {ofShare(math.MaxInt64), known(most, 0, 0, true)}, {ofWhile(most + 1), known(0, most, 0, true)}, {ofWhile(most), known(0, most, 0, true)}, {ofError(api.Open), known(0, 0, most, true)}, {ofError(most - 1), known(0, 0, most-1, true)},
		{noStore(), known(0, 0, 0, false)}, {private(), known(0, 0, 0, false)}, {noCache(), none},
		{control.Rule{Max: 5, Shared: 4, While: 3, Error: 2}, known(4, 3, 2, true)}, {control.Rule{Max: 5, Shared: -1, While: 3, Error: 2}, known(5, 3, 2, true)},
		{control.Rule{Max: 5, Shared: 4, While: 3, Error: 2, NoCache: true}, none}, {control.Rule{Max: most + 1, Shared: -1, While: most + 1, Error: most + 1, NoCache: true}, none},
		{control.Rule{Max: 5, Shared: 4, While: 3, Error: 2, NoStore: true}, known(4, 3, 2, false)}, {control.Rule{Max: 5, Shared: -1, While: 3, Error: 2, Private: true}, known(5, 3, 2, false)},
		{control.Rule{Max: 5, Shared: 4, While: 3, Error: 2, NoStore: true, NoCache: true}, known(0, 0, 0, false)}, {control.Rule{Max: 5, Shared: 4, While: 3, Error: 2, Private: true, NoCache: true}, known(0, 0, 0, false)}, {control.Rule{Max: 1, Shared: -1, While: -1, Error: -1, NoStore: true, Private: true}, known(1, 0, 0, false)},
	} {
		for _, m := range []api.Meta{none, known(9, 8, 7, false), known(-1, most+1, math.MinInt64, true), known(0, 0, 0, false)} {
			if got := control.Apply(m, x.r); !alike(got, x.want) {
				t.Errorf("%+v by %+v: %+v, not %+v", m, x.r, got, x.want)
			}
		}
	}
	if got := control.Apply(api.Meta{}, nothing()); !alike(got, api.Meta{Keep: true}) {
		t.Error(got)
	}
}

// P9.4

func TestOf(t *testing.T) {
	rule := func(shared, while, failed int64, store bool) control.Rule {
		return control.Rule{Max: -1, Shared: shared, While: while, Error: failed, NoStore: store}
	}
	for _, x := range []struct {
		m    api.Meta
		want control.Rule
	}{
		{api.Meta{}, rule(0, -1, -1, true)}, {api.Meta{Keep: true}, rule(0, -1, -1, false)},
		{known(3, 2, 1, true), rule(3, 2, 1, false)}, {known(3, 2, 1, false), rule(3, 2, 1, true)},
		{known(0, 1, 0, true), rule(0, 1, -1, false)}, {known(0, 0, 1, true), rule(0, -1, 1, false)}, {known(1, 0, 0, true), rule(1, -1, -1, false)},
		{known(most, most, most, true), rule(most, most, most, false)}, {known(most-1, most-1, most-1, true), rule(most-1, most-1, most-1, false)},
		{known(most+1, most+1, most+1, true), rule(most, most, most, false)}, {known(math.MaxInt64, api.Open, math.MaxInt64, false), rule(most, most, most, true)},
		{known(-1, -1, -1, true), rule(0, -1, -1, false)}, {known(-7, -7, -7, false), rule(0, -1, -1, true)}, {known(math.MinInt64, math.MinInt64, math.MinInt64, true), rule(0, -1, -1, false)},
	} {
		if got := control.Of(x.m); got != x.want {
			t.Errorf("%+v: %+v, not %+v", x.m, got, x.want)
		}
	}
}

// P9.5

func TestAge(t *testing.T) {
	for text, n := range numbers() {
		for _, s := range []string{text, " " + text, text + "\t", " \t " + text + "\t\t "} {
			if got, e := control.Age(s); got != n || e != api.OK {
				t.Errorf("%.50q: %d %d", s, got, e)
			}
		}
	}
	for _, text := range slices.Concat(noNumbers(), []string{" ", "\t", "\"5\"", "5,5", "5,", "1 2", "- 1", "\v5", "5\u2003"}) {
		for _, s := range []string{text, " " + text, text + "\t "} {
			if got, e := control.Age(s); got != 0 || e != api.ErrForm {
				t.Errorf("%q: %d %d", s, got, e)
			}
		}
	}
}

// P9.6

// rules is rules of all of some numbers, with all of what there may be beside them.
func rules() []control.Rule {
	var l []control.Rule
	for _, a := range []int64{-1, 0, 5, most, most + 1, -most} {
		for _, b := range []int64{-1, 0, 4, most, math.MaxInt64, math.MinInt64} {
			for _, c := range []int64{-1, 0, 3, most - 1, -2} {
				for _, d := range []int64{-1, 0, 2, most, api.Open} {
					for n := range 8 {
						l = append(l, control.Rule{Max: a, Shared: b, While: c, Error: d, NoStore: n&1 != 0, NoCache: n&2 != 0, Private: n&4 != 0})
					}
				}
			}
		}
	}
	return l
}

// near is the nearest number that a rule may say.
func near(n int64) int64 { return min(max(n, -1), most) }

func TestWhatIsToldIsRead(t *testing.T) {
	for _, r := range rules() {
		want := r
		want.Max, want.Shared, want.While, want.Error = near(r.Max), near(r.Shared), near(r.While), near(r.Error)
		text := control.Text(r)
		parsed(t, want, text)
		parsed(t, want, strings.ToUpper(text), "x")
		if again := control.Text(want); again != text {
			t.Fatalf("%q, %q", text, again)
		}
	}
}

func TestVersionsOfTheirRules(t *testing.T) {
	for _, fresh := range []int64{0, 1, most - 1, most} {
		for _, while := range []int64{0, 1, most} {
			for _, failed := range []int64{0, 1, most} {
				for _, keep := range []bool{false, true} {
					m := known(fresh, while, failed, keep)
					if got := control.Apply(m, control.Of(m)); !alike(got, m) {
						t.Errorf("%+v: %+v", m, got)
					}
					if got := control.Apply(known(9, 9, 9, !keep), control.Parse(control.Text(control.Of(m)))); !alike(got, m) {
						t.Errorf("%+v: %+v", m, got)
					}
				}
			}
		}
	}
}

// orders is all orders of some texts.
func orders(l []string) [][]string {
	if len(l) == 0 {
		return [][]string{nil}
	}
	var all [][]string
	for i := range l {
		for _, rest := range orders(slices.Concat(l[:i], l[i+1:])) {
			all = append(all, append([]string{l[i]}, rest...))
		}
	}
	return all
}

func TestInWhateverOrder(t *testing.T) {
	for _, l := range [][]string{
		{"max-age=5", "max-age=4", "max-age=6", "no-store", "x"},
		{"s-maxage=0", "max-age=4", "private=\"a, no-store\"", "s-maxage=3", "stale-if-error=x"},
		{"stale-if-error=2", "stale-if-error=99999999999999", "stale-if-error=1", "no-cache", "stale-while-revalidate=7"},
	} {
		want := control.Parse(l...)
		for _, order := range orders(l) {
			parsed(t, want, order...)
			parsed(t, want, strings.Join(order, ","))
			parsed(t, want, strings.Join(order[:2], ", "), strings.Join(order[2:], ", "))
		}
	}
}

func TestOneMoreDirective(t *testing.T) {
	some := []string{"max-age=9", "max-age=3", "max-age=0", "s-maxage=7", "s-maxage=0", "stale-if-error=4", "stale-while-revalidate=4", "no-store", "no-cache", "private", "x", "max-age=x"}
	for _, a := range some {
		for _, b := range some {
			before := control.Parse(a, b)
			for _, c := range some {
				after := control.Parse(a, b, c)
				m, then := control.Apply(api.Meta{}, before), control.Apply(api.Meta{}, after)
				if then.Keep && !m.Keep {
					t.Errorf("%s, %s; %s: kept", a, b, c)
				}
				if before.Max >= 0 && after.Shared < 0 && then.Fresh > m.Fresh {
					t.Errorf("%s, %s; %s: %d", a, b, c, then.Fresh)
				}
			}
		}
	}
}

// holds is whether a text's memory lies in another one's.
func holds(whole, text string) bool {
	at, begin := uintptr(unsafe.Pointer(unsafe.StringData(text))), uintptr(unsafe.Pointer(unsafe.StringData(whole)))
	return len(text) > 0 && begin <= at && at < begin+uintptr(len(whole))
}

// What is answered shares no memory with an argument, and no argument is written into.
func TestAnswersShareNothing(t *testing.T) {
	given := known(3, 2, 1, false)
	given.Tag.Text, given.Tenant, given.Keys = "the tag", "the tenant", []string{"one key", "another one"}
	kept := given
	kept.Keys = slices.Clone(given.Keys)
	got := control.Apply(given, ofMax(9))
	for _, pair := range [][2]string{{given.Tag.Text, got.Tag.Text}, {given.Tenant, got.Tenant}, {given.Keys[0], got.Keys[0]}, {given.Keys[1], got.Keys[1]}} {
		if holds(pair[0], pair[1]) || pair[0] != pair[1] {
			t.Errorf("%q and %q", pair[0], pair[1])
		}
	}
	got.Keys[0] = "x"
	if !alike(given, kept) {
		t.Error(given)
	}
	want := kept
	want.Fresh, want.While, want.Error, want.Keep = 9, 0, 0, true
	if again := control.Apply(given, ofMax(9)); !alike(again, want) {
		t.Error(again)
	}
}
