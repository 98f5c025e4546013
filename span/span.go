// Package span is layer 1: spans of bytes, with open ends: see shared/doc/01-span.md.
package span

import (
	"strconv"
	"strings"

	"mandoline/api"
)

const maxUnit int64 = 1 << 40

// Right is whether a span may be.
func Right(s api.Span) bool {
	return 0 <= s.From && s.From <= s.To && s.To <= api.Open
}

// isOpen leaves out the span from Open to Open: it ends where it begins, so it is empty.
func isOpen(s api.Span) bool {
	return s.To == api.Open && s.From != api.Open
}

// Len is how many bytes; api.Open: no end.
func Len(s api.Span) int64 {
	switch {
	case !Right(s):
		return 0
	case isOpen(s):
		return api.Open
	}
	return s.To - s.From
}

// Has is whether a byte is in it.
func Has(s api.Span, at int64) bool {
	return Right(s) && s.From <= at && at < s.To
}

// overlap runs from the greater From to the lesser To; it ends ahead of its From where there is a gap between both.
func overlap(a, b api.Span) api.Span {
	return api.Span{From: max(a.From, b.From), To: min(a.To, b.To)}
}

// Meet is what both have; false: nothing.
func Meet(a, b api.Span) (api.Span, bool) {
	both := overlap(a, b)
	if !Right(a) || !Right(b) || both.From >= both.To {
		return api.Span{}, false
	}
	return both, true
}

// Touch is whether they meet, or one begins where the other one ends.
func Touch(a, b api.Span) bool {
	both := overlap(a, b)
	return Right(a) && Right(b) && both.From <= both.To
}

// Join is both as one, if they touch.
func Join(a, b api.Span) (api.Span, bool) {
	if !Touch(a, b) {
		return api.Span{}, false
	}
	return api.Span{From: min(a.From, b.From), To: max(a.To, b.To)}, true
}

// Within is whether all of a is in b.
func Within(a, b api.Span) bool {
	if !Right(a) || !Right(b) {
		return false
	}
	return a.From == a.To || b.From <= a.From && a.To <= b.To
}

// Cut is what is ahead of a byte, and the rest.
func Cut(s api.Span, at int64) (api.Span, api.Span) {
	if !Right(s) {
		return api.Span{}, api.Span{}
	}
	at = min(max(at, s.From), s.To)
	return api.Span{From: s.From, To: at}, api.Span{From: at, To: s.To}
}

// Align is the least span of whole units that has all of it.
func Align(s api.Span, unit int64) (api.Span, api.Errno) {
	if !Right(s) || unit < 1 || unit > maxUnit {
		return api.Span{}, api.ErrArg
	}
	// To is at most 2^62 and a unit at most 2^40, so nothing goes round here.
	to := (s.To + unit - 1) / unit * unit
	return api.Span{From: s.From - s.From%unit, To: min(to, api.Open)}, api.OK
}

// Text is its text.
func Text(s api.Span) string {
	if !Right(s) {
		return ""
	}
	text := strconv.FormatInt(s.From, 10) + "-"
	if isOpen(s) {
		return text
	}
	return text + strconv.FormatInt(s.To, 10)
}

// Parse is the span of a text.
func Parse(s string) (api.Span, api.Errno) {
	first, last, _ := strings.Cut(s, "-")
	from, err := strconv.ParseInt(first, 10, 64)
	if err != nil {
		return api.Span{}, api.ErrForm
	}
	to := api.Open
	if last != "" {
		to, err = strconv.ParseInt(last, 10, 64)
		if err != nil {
			return api.Span{}, api.ErrForm
		}
	}
	// A number may be told in more ways than one, and a wrong span has no text: only what is told again just so is read.
	parsed := api.Span{From: from, To: to}
	if Text(parsed) != s {
		return api.Span{}, api.ErrForm
	}
	return parsed, api.OK
}
