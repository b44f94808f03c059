package value

import (
	"slices"
	"strings"

	"folio/api"
)

// isPattern is asked of patterns that are not empty, and of kinds that are one.
func isPattern(kind, pattern string) bool {
	switch kind {
	case api.Text, api.Person, api.Code:
		return isText(pattern)
	case api.Name:
		return allFilled(kind, alternatives(pattern))
	case api.Date, api.Time:
		return isSpan(kind, pattern)
	}
	return checkFilled(kind, pattern) == api.OK
}

func alternatives(pattern string) []string { return strings.Split(pattern, `\`) }

func allFilled(kind string, l []string) bool {
	for _, s := range l {
		if checkFilled(kind, s) != api.OK {
			return false
		}
	}
	return true
}

// isSpan: a - cannot stand in a date or time, so the first one parts the two.
func isSpan(kind, pattern string) bool {
	from, to, parted := strings.Cut(pattern, "-")
	if !parted {
		return checkFilled(kind, from) == api.OK
	}
	return pattern != "-" && Check(kind, from) == api.OK && Check(kind, to) == api.OK
}

// fits is asked of patterns that are one, and of values that are one, the
// empty one among them.
func fits(kind, pattern, value string) bool {
	switch kind {
	case api.Person:
		return fitsText(strings.ToLower(pattern), strings.ToLower(value))
	case api.Text, api.Code:
		return fitsText(pattern, value)
	}
	if value == "" {
		return false
	}
	switch kind {
	case api.Date:
		return fitsDate(pattern, value)
	case api.Time:
		return fitsTime(pattern, value)
	case api.Number:
		return sameNumber(pattern, value)
	}
	return slices.Contains(alternatives(pattern), value)
}

// fitsText tries the shortest stretch for each * first, and where the rest
// does not fit, a longer one for the last * alone: whatever fits with a longer
// stretch for an earlier one fits so, too.
func fitsText(pattern, value string) bool {
	p, v := 0, 0
	behindStar, stretch := -1, 0
	for v < len(value) {
		switch {
		case p < len(pattern) && pattern[p] == '*':
			p++
			behindStar, stretch = p, v
		case p < len(pattern) && (pattern[p] == '?' || pattern[p] == value[v]):
			p++
			v++
		case behindStar >= 0:
			stretch++
			p, v = behindStar, stretch
		default:
			return false
		}
	}
	return strings.Trim(pattern[p:], "*") == ""
}

func fitsDate(pattern, value string) bool {
	from, to, parted := strings.Cut(pattern, "-")
	if !parted {
		return value == from
	}
	return within(from, to, value)
}

func fitsTime(pattern, value string) bool {
	from, to, parted := strings.Cut(pattern, "-")
	if !parted {
		return strings.HasPrefix(value, from) || strings.HasPrefix(from, value)
	}
	return within(filled(from, "00"), filled(to, "59"), filled(value, "00"))
}

// within goes by bytes, which is the order of digits that are equally many.
func within(from, to, value string) bool {
	return from <= value && (to == "" || value <= to)
}

// filled leaves an end where no time stands as it is: nothing is missing there.
func filled(time, missing string) string {
	for time != "" && len(time) < 6 {
		time += missing
	}
	return time
}

// sameNumber: there is more than one way to write a number.
func sameNumber(pattern, value string) bool {
	n, _ := number(pattern)
	m, _ := number(value)
	return n == m
}
