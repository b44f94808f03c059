package value_test

import (
	"math/big"
	"math/rand/v2"
	"regexp"
	"strings"
	"testing"
	"time"

	"folio/api"
	"folio/value"
)

var kinds = []string{"UI", "CS", "LO", "PN", "DA", "TM", "IS"}

var noKinds = []string{"SQ", "", "XX", "ui", "U", "UI ", " UI", "UIUI", "\x00\x00", "\xff\xff", "日本"}

func long(s string, n int) string { return strings.Repeat(s, n) }

func pick[T any](r *rand.Rand, l ...T) T { return l[r.IntN(len(l))] }

func checks(t *testing.T, kind, v string, want api.Errno) {
	t.Helper()
	if e := value.Check(kind, v); e != want {
		t.Errorf("Check(%q, %q) = %d, want %d", kind, v, e, want)
	}
}

func matches(t *testing.T, kind, pattern, v string, want bool, wantError api.Errno) {
	t.Helper()
	if ok, e := value.Match(kind, pattern, v); ok != want || e != wantError {
		t.Errorf("Match(%q, %q, %q) = %t, %d, want %t, %d", kind, pattern, v, ok, e, want, wantError)
	}
}

// What follows tells P5 and P6 once more, by expressions instead of loops.

var forms = map[string]*regexp.Regexp{
	"UI": regexp.MustCompile(`^(0|[1-9][0-9]*)(\.(0|[1-9][0-9]*))*$`),
	"LO": regexp.MustCompile(`^[ -\[\]-~]*[!-\[\]-~]$`),
	"PN": regexp.MustCompile(`^[ -\[\]-~]*[!-\[\]-~]$`),
	"CS": regexp.MustCompile(`^[A-Z0-9 _]*[A-Z0-9_]$`),
	"DA": regexp.MustCompile(`^[0-9]{8}$`),
	"TM": regexp.MustCompile(`^([01][0-9]|2[0-3])([0-5][0-9]([0-5][0-9])?)?$`),
	"IS": regexp.MustCompile(`^[+-]?[0-9]+$`),
}

var sizes = map[string]int{"UI": 64, "LO": 64, "PN": 64, "CS": 16, "DA": 8, "TM": 6, "IS": 12}

func referenceFilled(kind, v string) bool {
	if len(v) > sizes[kind] || !forms[kind].MatchString(v) {
		return false
	}
	switch kind {
	case "PN":
		return len(strings.Split(v, "^")) <= 5
	case "DA":
		_, err := time.Parse("20060102", v)
		return err == nil
	case "IS":
		n, _ := new(big.Int).SetString(v, 10)
		return n.Add(n, big.NewInt(1<<31)).Sign() >= 0 && n.BitLen() <= 32
	}
	return true
}

func referenceCheck(kind, v string) api.Errno {
	if sizes[kind] == 0 {
		return api.ErrKind
	}
	if v == "" || referenceFilled(kind, v) {
		return api.OK
	}
	return api.ErrValue
}

var patternForms = map[string]*regexp.Regexp{
	"LO": regexp.MustCompile(`^[ -\[\]-~]{1,64}$`),
	"DA": regexp.MustCompile(`^([0-9]{8})?(-)?([0-9]{8})?$`),
	"TM": regexp.MustCompile(`^([0-9]{2,6})?(-)?([0-9]{2,6})?$`),
}

func referenceMatch(kind, pattern, v string) (bool, api.Errno) {
	if e := referenceCheck(kind, v); e != api.OK {
		return false, e
	}
	if pattern == "" {
		return true, api.OK
	}
	fits, ok := false, true
	switch kind {
	case "UI":
		for _, x := range strings.Split(pattern, "\\") {
			ok = ok && referenceFilled(kind, x)
			fits = fits || x == v
		}
	case "IS":
		ok = referenceFilled(kind, pattern)
		fits = ok && v != "" && whole(pattern).Cmp(whole(v)) == 0
	case "DA", "TM":
		fits, ok = referenceSpan(kind, pattern, v)
	default:
		ok = patternForms["LO"].MatchString(pattern)
		fits = ok && asExpression(kind, pattern).MatchString(v)
	}
	if !ok {
		return false, api.ErrPattern
	}
	return fits, api.OK
}

func whole(s string) *big.Int {
	n, _ := new(big.Int).SetString(s, 10)
	return n
}

func asExpression(kind, pattern string) *regexp.Regexp {
	x := regexp.QuoteMeta(pattern)
	x = strings.ReplaceAll(strings.ReplaceAll(x, `\*`, `.*`), `\?`, `.`)
	flags := "(?s)"
	if kind == "PN" {
		flags = "(?si)"
	}
	return regexp.MustCompile(flags + "^" + x + "$")
}

func referenceSpan(kind, pattern, v string) (fits, ok bool) {
	m := patternForms[kind].FindStringSubmatch(pattern)
	if m == nil || referenceCheck(kind, m[1]) != api.OK || referenceCheck(kind, m[3]) != api.OK || m[1] == "" && m[3] == "" {
		return false, false
	}
	from, to := m[1], m[3]
	if m[2] == "" {
		if from == "" || to != "" {
			return false, false
		}
		n := min(len(from), len(v))
		return n > 0 && from[:n] == v[:n], true
	}
	first, last := 0, 1<<40
	if from != "" {
		first = moment(from, 0)
	}
	if to != "" {
		last = moment(to, 59)
	}
	return v != "" && first <= moment(v, 0) && moment(v, 0) <= last, true
}

// moment: a date as a number, a time in seconds.
func moment(s string, missing int) int {
	if len(s) == 8 {
		return int(whole(s).Int64())
	}
	n := 0
	for i := 0; i < 6; i += 2 {
		part := missing
		if i < len(s) {
			part = int(whole(s[i : i+2]).Int64())
		}
		n = n*60 + part
	}
	return n
}

// near: values and patterns that are one, or nearly.
func near(r *rand.Rand, kind string) string {
	pieces := map[string][]string{
		"UI": {"0", "1", "12", ".", "1.", ".2", "1.2", "1.3", "\\", "1.2\\"},
		"LO": {"a", "b", "A", "*", "?", " ", "^", "ab", "\\", "\x7f", "a*"},
		"PN": {"a", "b", "A", "B", "*", "?", " ", "^", "[", "{", "@", "`", "^^", "\x1f"},
		"CS": {"A", "B", "a", "*", "?", " ", "_", "0", "9", "AB"},
		"DA": {"20200228", "20200229", "20200301", "20190229", "-", "-", "2020", "0", "1"},
		"TM": {"10", "1030", "103059", "11", "1100", "110000", "-", "-", "23", "59", "60", "24", "1"},
		"IS": {"0", "1", "2", "-", "+", "00", "-1", "+1", "2147483647", "2147483648", "*"},
	}[kind]
	s := ""
	for range 1 + r.IntN(pick(r, 1, 3, 3, 5)) {
		s += pick(r, pieces...)
	}
	if r.IntN(20) == 0 {
		s = long(s, 1+r.IntN(40))
	}
	return s
}

// anyBytes: nothing is asked of them.
func anyBytes(r *rand.Rand) string {
	b := make([]byte, r.IntN(70))
	for i := range b {
		b[i] = byte(r.IntN(256))
	}
	return string(b)
}
