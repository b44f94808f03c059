package value_test

import (
	"fmt"
	"math/rand/v2"
	"testing"

	"folio/api"
)

func TestMatchExamples(t *testing.T) {
	matches(t, "PN", "do*", "DOE^JOHN", true, api.OK)
	matches(t, "DA", "20200101-", "20191231", false, api.OK)
	matches(t, "TM", "10", "103059", true, api.OK)
	matches(t, "TM", "10-1030", "103059", true, api.OK)
	matches(t, "TM", "10-1030", "1031", false, api.OK)
	matches(t, "IS", "07", "7", true, api.OK)
	matches(t, "UI", `1.2\1.3`, "1.3", true, api.OK)
}

// A kind that is none goes ahead of a value that is none, and this ahead of a
// pattern that is none.
func TestMatchOrderOfErrors(t *testing.T) {
	for _, kind := range noKinds {
		for _, pattern := range []string{"", "1", "\x00"} {
			for _, v := range []string{"", "1", "\x00"} {
				matches(t, kind, pattern, v, false, api.ErrKind)
			}
		}
	}
	for _, kind := range kinds {
		for _, pattern := range []string{"", "1", "*", "\x00"} {
			matches(t, kind, pattern, "\x00", false, api.ErrValue)
		}
		for _, v := range []string{"", "\x00"} {
			want := api.ErrPattern
			if v != "" {
				want = api.ErrValue
			}
			matches(t, kind, "\x00", v, false, want)
		}
	}
}

func TestMatchEmptyPattern(t *testing.T) {
	for kind, l := range map[string][]string{
		"UI": {"", "0", "1.2", long("1", 64)},
		"LO": {"", "a", " a", "*", long("x", 64)},
		"PN": {"", "a", "^^^^", long("x", 64)},
		"CS": {"", "A", "_", long("A", 16)},
		"DA": {"", "00000101", "99991231"},
		"TM": {"", "00", "0000", "235959"},
		"IS": {"", "0", "-0", "-2147483648", "2147483647"},
	} {
		for _, v := range l {
			matches(t, kind, "", v, true, api.OK)
		}
	}
}

func TestMatchEmptyValue(t *testing.T) {
	for _, kind := range []string{"LO", "PN", "CS"} {
		for _, pattern := range []string{"*", "**", long("*", 64)} {
			matches(t, kind, pattern, "", true, api.OK)
		}
		for _, pattern := range []string{"?", "*?", "?*", " ", "* ", "A", "A*", "*A"} {
			matches(t, kind, pattern, "", false, api.OK)
		}
	}
	for kind, l := range map[string][]string{
		"UI": {"0", "1.2", `1.2\1.3`},
		"DA": {"20200101", "20200101-", "-20200101", "00000101-99991231"},
		"TM": {"00", "0000", "000000", "00-", "-00", "-23", "00-23"},
		"IS": {"0", "-0", "+0", "1"},
	} {
		for _, pattern := range l {
			matches(t, kind, pattern, "", false, api.OK)
		}
	}
}

type matchCase struct {
	kind, pattern string
	yes, no       []string
}

func tellsApart(t *testing.T, l []matchCase) {
	t.Helper()
	for _, c := range l {
		for _, v := range c.yes {
			matches(t, c.kind, c.pattern, v, true, api.OK)
		}
		for _, v := range c.no {
			matches(t, c.kind, c.pattern, v, false, api.OK)
		}
	}
}

func TestMatchNames(t *testing.T) {
	many := long(`1.2\`, 9999)
	tellsApart(t, []matchCase{
		{"UI", "1.2", []string{"1.2"}, []string{"1", "1.20", "1.2.3", "2"}},
		{"UI", `1.2\1.3\5`, []string{"1.2", "1.3", "5"}, []string{"1", "1.4", "1.2.1", "3", "2"}},
		{"UI", `1\1`, []string{"1"}, []string{"11", "1.1"}},
		{"UI", long("1", 64) + `\2`, []string{long("1", 64), "2"}, []string{long("1", 63)}},
		{"UI", many + "7", []string{"7", "1.2"}, []string{"8"}},
	})
	for _, pattern := range []string{`\`, `\\`, `1\`, `\1`, `1\\2`, `1.\2`, `1\01`, "01", "*", "1.*", "1.?", "1 ", `1 \2`, "1-2", "1,2", "1/2", long("1", 65), `1\` + long("1", 65), many} {
		for _, v := range []string{"", "1", "2"} {
			matches(t, "UI", pattern, v, false, api.ErrPattern)
		}
	}
}

func TestMatchTexts(t *testing.T) {
	tellsApart(t, []matchCase{
		{"LO", "a", []string{"a"}, []string{"A", "b", "aa", "*"}},
		{"LO", "*", []string{"a", "a b", "*", "?", long("x", 64)}, nil},
		{"LO", "?", []string{"a", "*", "?", "~"}, []string{"ab"}},
		{"LO", "??", []string{"ab", " a"}, []string{"a", "abc"}},
		{"LO", "a*", []string{"a", "ab", "a*", "a b"}, []string{"A", "ba", "b"}},
		{"LO", "*a", []string{"a", "ba", "aba", "aa"}, []string{"ab", "A"}},
		{"LO", "*a*", []string{"a", "bab", "aab"}, []string{"b", "A"}},
		{"LO", "a*b*c", []string{"abc", "aXbYc", "abbcc", "abcbc", "abcabc"}, []string{"acb", "ab", "abcd", "xabc"}},
		{"LO", "*ab*ab*", []string{"abab", "aabab", "abxab"}, []string{"ab", "aba", "abb"}},
		{"LO", "a**b", []string{"ab", "axb"}, []string{"a", "b"}},
		{"LO", "a?c", []string{"abc", "a?c", "a*c"}, []string{"ac", "abbc"}},
		{"LO", "?*", []string{"a", "ab"}, nil},
		{"LO", "*??", []string{"ab", "abc"}, []string{"a"}},
		{"LO", "*b?d*", []string{"abcd", "bcd", "bbcdd", "bXbYd"}, []string{"bd", "abd"}},
		{"LO", "*\x20", nil, []string{"a", "a b"}},
		{"LO", "a ", nil, []string{"a"}},
		{"LO", " a", []string{" a"}, []string{"a"}},
		{"LO", "^^^^^^", []string{"^^^^^^"}, []string{"^^^^^"}},
		{"LO", ".+[a]$", []string{".+[a]$"}, []string{"xa", "a"}},
		{"LO", long("?", 64), []string{long("x", 64)}, []string{long("x", 63)}},
		{"LO", long("*a", 32), []string{long("a", 64), long("a", 32)}, []string{long("a", 31), long("a", 63) + "b"}},
		{"LO", long("*a", 31) + "*b", []string{long("a", 63) + "b"}, []string{long("a", 64)}},
		{"CS", "CT", []string{"CT"}, []string{"MR", "C", "CTX"}},
		{"CS", "ct", nil, []string{"CT"}},
		{"CS", "C*", []string{"C", "CT", "C T"}, []string{"MR", "AC"}},
		{"CS", "?_?", []string{"A_B", " _0"}, []string{"A_", "ABC"}},
		{"CS", "a^~", nil, []string{"A"}},
		{"CS", "A" + long("*", 63), []string{"A", "AB", long("A", 16)}, []string{"B"}},
		{"CS", long("A", 17), nil, []string{long("A", 16)}},
		{"CS", "A ", nil, []string{"A"}},
	})
}

func TestMatchPersons(t *testing.T) {
	tellsApart(t, []matchCase{
		{"PN", "do*", []string{"DOE^JOHN", "do", "Do", "dO"}, []string{"ed", "d"}},
		{"PN", "DOE^?OHN", []string{"doe^john", "DOE^JOHN", "Doe^John"}, []string{"doe^ohn", "doe john"}},
		{"PN", "*Z", []string{"z", "aZ", "ZZZ"}, []string{"za", "y"}},
		{"PN", "[", []string{"["}, []string{"{"}},
		{"PN", "@", []string{"@"}, []string{"`"}},
		{"PN", "{|}~", []string{"{|}~"}, []string{"[|]~", "{|}^"}},
		{"PN", "0", []string{"0"}, []string{"P"}},
		{"PN", "^^^^^", nil, []string{"^^^^"}},
		{"PN", "*^*^*^*^*^*", nil, []string{"a^b^c^d^e"}},
		{"PN", "a ", nil, []string{"a", "A"}},
	})
	for c := byte('a'); c <= 'z'; c++ {
		small, capital := string([]byte{c}), string([]byte{c - 'a' + 'A'})
		matches(t, "PN", small, capital, true, api.OK)
		matches(t, "PN", capital, small, true, api.OK)
		matches(t, "LO", small, capital, false, api.OK)
		matches(t, "LO", capital, small, false, api.OK)
	}
}

func TestMatchNoTextPatterns(t *testing.T) {
	for _, kind := range []string{"LO", "PN", "CS"} {
		for _, pattern := range []string{`\`, `a\b`, `A*\`, "\x00", "\x1f", "\x7f", "A\n", "é", "\xff", "*\t", long("A", 65), long("*", 65), long(" ", 65)} {
			for _, v := range []string{"", "A"} {
				matches(t, kind, pattern, v, false, api.ErrPattern)
			}
		}
		for _, pattern := range []string{" ", "a ", "^^^^^^", long("b", 64), long(" ", 64)} {
			matches(t, kind, pattern, "A", false, api.OK)
		}
	}
}

func TestMatchDates(t *testing.T) {
	tellsApart(t, []matchCase{
		{"DA", "20200101", []string{"20200101"}, []string{"20200102", "20191231", "20210101"}},
		{"DA", "20200101-", []string{"20200101", "20200102", "99991231"}, []string{"20191231", "00000101"}},
		{"DA", "-20200101", []string{"20200101", "20191231", "00000101"}, []string{"20200102", "99991231"}},
		{"DA", "20200229-20200301", []string{"20200229", "20200301"}, []string{"20200228", "20200302"}},
		{"DA", "20200101-20200131", []string{"20200101", "20200115", "20200131"}, []string{"20200201", "20191231", "20210115"}},
		{"DA", "20200101-20200101", []string{"20200101"}, []string{"20200102", "20191231"}},
		{"DA", "20200131-20200101", nil, []string{"20200101", "20200115", "20200131"}},
		{"DA", "00000101-99991231", []string{"00000101", "99991231"}, nil},
	})
	for _, pattern := range []string{"-", "--", "2020", "202001", "20200101-x", "x-20200101", "20200101-2020", "2020-20200101", "20200101--", "--20200101", "-20200101-", "20200101--20200102", "20200101-20200102-", "20200101-20200102-20200103", "20200230", "20190229-", "-20190229", "20200101-20200230", "20200101 -", "20200101 ", " 20200101", "2020010120200102", "20200101\\20200102", "*", "202001??", "2020*", "+20200101"} {
		for _, v := range []string{"", "20200101"} {
			matches(t, "DA", pattern, v, false, api.ErrPattern)
		}
	}
}

func TestMatchTimes(t *testing.T) {
	tellsApart(t, []matchCase{
		{"TM", "10", []string{"10", "1000", "1059", "100000", "103059"}, []string{"11", "0910", "091000", "01"}},
		{"TM", "1030", []string{"10", "1030", "103000", "103059"}, []string{"1031", "103100", "11", "1130", "1000"}},
		{"TM", "103059", []string{"10", "1030", "103059"}, []string{"103058", "1031", "11", "100000"}},
		{"TM", "10-", []string{"10", "1000", "100000", "100001", "235959"}, []string{"09", "0959", "095959"}},
		{"TM", "1030-", []string{"1030", "103000", "11", "23"}, []string{"10", "1029", "102959"}},
		{"TM", "103001-", []string{"103001", "1031"}, []string{"103000", "1030", "10"}},
		{"TM", "-10", []string{"00", "10", "1059", "105959"}, []string{"11", "1100", "110000"}},
		{"TM", "-1030", []string{"10", "1030", "103059"}, []string{"1031", "103100", "11"}},
		{"TM", "-103001", []string{"10", "1030", "103001"}, []string{"103002", "1031"}},
		{"TM", "10-1030", []string{"10", "1030", "103059"}, []string{"1031", "103100", "0959", "095959"}},
		{"TM", "1030-11", []string{"1030", "11", "1159", "115959"}, []string{"10", "1029", "12"}},
		{"TM", "10-10", []string{"10", "1030", "105959"}, []string{"09", "11"}},
		{"TM", "1030-10", []string{"1030", "105959"}, []string{"10", "102959", "11"}},
		{"TM", "103000-103000", []string{"1030", "103000"}, []string{"103001", "10"}},
		{"TM", "00-23", []string{"00", "235959"}, nil},
		{"TM", "11-10", nil, []string{"10", "1030", "11"}},
	})
	for _, pattern := range []string{"-", "--", "1", "101", "10105", "1010101", "24", "1060", "101060", "10-24", "24-", "-24", "10-1060", "10-1", "1-10", "10--11", "10--", "--10", "-10-", "10-11-", "10-11-12", "10 ", "10 -", "10- 11", "10:30", "1030.5", "*", "10*", "1?", "+1", "10\\11"} {
		for _, v := range []string{"", "10", "1030"} {
			matches(t, "TM", pattern, v, false, api.ErrPattern)
		}
	}
}

// Times of two, four and six digits on either side.
func TestMatchTimesAll(t *testing.T) {
	var times []string
	for _, h := range []int{0, 10, 11, 23} {
		times = append(times, fmt.Sprintf("%02d", h))
		for _, m := range []int{0, 30, 59} {
			times = append(times, fmt.Sprintf("%02d%02d", h, m))
			for _, s := range []int{0, 1, 59} {
				times = append(times, fmt.Sprintf("%02d%02d%02d", h, m, s))
			}
		}
	}
	for _, v := range times {
		for _, from := range times {
			for _, pattern := range []string{from, from + "-", "-" + from} {
				want, _ := referenceMatch("TM", pattern, v)
				matches(t, "TM", pattern, v, want, api.OK)
			}
			for _, to := range times {
				want, _ := referenceMatch("TM", from+"-"+to, v)
				matches(t, "TM", from+"-"+to, v, want, api.OK)
			}
		}
	}
}

func TestMatchNumbers(t *testing.T) {
	tellsApart(t, []matchCase{
		{"IS", "07", []string{"7", "+7", "007", "+00000000007"}, []string{"-7", "70", "0", "17"}},
		{"IS", "7", []string{"07"}, []string{"77"}},
		{"IS", "-0", []string{"0", "+0", "-0", "000"}, []string{"1", "-1"}},
		{"IS", "-7", []string{"-7", "-007"}, []string{"7"}},
		{"IS", "2147483647", []string{"2147483647", "+2147483647"}, []string{"-1", "2147483646", "-2147483648", "-2147483647"}},
		{"IS", "-2147483648", []string{"-2147483648", "-02147483648"}, []string{"0", "-2147483647", "2147483647"}},
	})
	for _, pattern := range []string{"x", "+", "-", "1-2", "1-", "1\\2", "*", "?", "1*", "1 ", " 1", "2147483648", "-2147483649", "0000000000007", "1.0"} {
		for _, v := range []string{"", "0", "1"} {
			matches(t, "IS", pattern, v, false, api.ErrPattern)
		}
	}
}

func TestMatchAny(t *testing.T) {
	r := rand.New(rand.NewPCG(6, 6))
	tried := map[string]int{}
	for range 150000 {
		kind := pick(r, kinds...)
		pattern, v := near(r, kind), near(r, kind)
		switch r.IntN(12) {
		case 0:
			pattern = anyBytes(r)
		case 1:
			v = anyBytes(r)
		case 2:
			pattern = near(r, pick(r, kinds...))
		case 3:
			v = ""
		case 4:
			pattern = ""
		}
		want, e := referenceMatch(kind, pattern, v)
		matches(t, kind, pattern, v, want, e)
		tried[fmt.Sprint(kind, want, e)]++
	}
	for _, kind := range kinds {
		for _, answer := range []string{fmt.Sprint(true, api.OK), fmt.Sprint(false, api.OK), fmt.Sprint(false, api.ErrPattern), fmt.Sprint(false, api.ErrValue)} {
			if n := tried[kind+answer]; n < 100 {
				t.Errorf("%s: only %d times %s among those tried", kind, n, answer)
			}
		}
	}
}
