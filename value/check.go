package value

import (
	"strconv"
	"strings"

	"folio/api"
)

const (
	maxCode   = 16 // bytes of a code
	maxNumber = 12 // bytes of a number
	maxCarets = 4  // in a person's name
)

// checkFilled is Check without its leave for the empty value, which has no
// place in a pattern of names, dates, times or numbers.
// What a code may be, a person may be, and what a person may be, a text may
// be: so the one that asks more falls through.
func checkFilled(kind string, value string) api.Errno {
	ok := false
	switch kind {
	case api.Code:
		if !isCode(value) {
			break
		}
		fallthrough
	case api.Person:
		if strings.Count(value, "^") > maxCarets {
			break
		}
		fallthrough
	case api.Text:
		ok = value != "" && isText(value) && !strings.HasSuffix(value, " ")
	case api.Name:
		ok = isName(value)
	case api.Date:
		ok = isDate(value)
	case api.Time:
		ok = isTime(value)
	case api.Number:
		_, ok = number(value)
	default:
		return api.ErrKind
	}
	if !ok {
		return api.ErrValue
	}
	return api.OK
}

// isCode tells no more than a code asks beyond a text.
func isCode(s string) bool {
	if len(s) > maxCode {
		return false
	}
	for i := range len(s) {
		if c := s[i]; !isDigit(c) && (c < 'A' || c > 'Z') && c != ' ' && c != '_' {
			return false
		}
	}
	return true
}

// isText lets a blank at the end pass: patterns may have one.
func isText(s string) bool {
	if len(s) > api.MaxValue {
		return false
	}
	for i := range len(s) {
		if c := s[i]; c < ' ' || c > '~' || c == '\\' {
			return false
		}
	}
	return true
}

func isName(s string) bool {
	if len(s) > api.MaxValue {
		return false
	}
	for _, part := range strings.Split(s, ".") {
		if part == "" || !isDigits(part) || part[0] == '0' && part != "0" {
			return false
		}
	}
	return true
}

func isDate(s string) bool {
	if len(s) != 8 || !isDigits(s) {
		return false
	}
	day := digits(s[6:])
	return day >= 1 && day <= daysOf(digits(s[:4]), digits(s[4:6]))
}

// daysOf answers 0 for a month that is none, so that no day lies in it.
func daysOf(year, month int) int {
	switch month {
	case 1, 3, 5, 7, 8, 10, 12:
		return 31
	case 4, 6, 9, 11:
		return 30
	case 2:
		if isLeap(year) {
			return 29
		}
		return 28
	}
	return 0
}

func isLeap(year int) bool {
	return year%4 == 0 && (year%100 != 0 || year%400 == 0)
}

func isTime(s string) bool {
	if n := len(s); n != 2 && n != 4 && n != 6 || !isDigits(s) {
		return false
	}
	if digits(s[:2]) > 23 {
		return false
	}
	for i := 2; i < len(s); i += 2 {
		if digits(s[i:i+2]) > 59 {
			return false
		}
	}
	return true
}

// number also tells whether it is one.
func number(s string) (int64, bool) {
	if len(s) > maxNumber {
		return 0, false
	}
	n, err := strconv.ParseInt(s, 10, 32)
	if err != nil {
		return 0, false
	}
	return n, true
}

func isDigit(c byte) bool { return c >= '0' && c <= '9' }

func isDigits(s string) bool {
	for i := range len(s) {
		if !isDigit(s[i]) {
			return false
		}
	}
	return true
}

// digits reads what is known to be at most four digits.
func digits(s string) int {
	n := 0
	for i := range len(s) {
		n = 10*n + int(s[i]-'0')
	}
	return n
}
