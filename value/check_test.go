package value_test

import (
	"fmt"
	"math/rand/v2"
	"testing"
	"time"

	"folio/api"
	"folio/value"
)

func TestCheckExamples(t *testing.T) {
	checks(t, "UI", "1.02", api.ErrValue)
	checks(t, "DA", "19000229", api.ErrValue)
	checks(t, "DA", "20000229", api.OK)
	checks(t, "TM", "2360", api.ErrValue)
	checks(t, "IS", "-0", api.OK)
}

func TestCheckKinds(t *testing.T) {
	for _, kind := range noKinds {
		for _, v := range []string{"", "1", "\\", long("a", 99)} {
			checks(t, kind, v, api.ErrKind)
		}
	}
	for _, kind := range kinds {
		checks(t, kind, "", api.OK)
	}
}

func TestCheckValues(t *testing.T) {
	for _, c := range []struct {
		kind      string
		good, bad []string
	}{
		{"UI",
			[]string{"0", "1", "10", "0.0", "1.2.3", "1.0.10", "9.8.7.6.5.4.3.2.1", long("1", 64), "1." + long("2", 62), "0" + long(".1", 31) + "2"},
			[]string{".", "..", "1.", ".1", "1..2", "00", "01", "1.00", "1.02", "-1", "+1", " 1", "1 ", "1. 2", "a", "1.a", "1\\2", "1,2", "1\x00", "/", ":", "*", "١", long("1", 65), long("1.", 32) + "1"}},
		{"LO",
			[]string{"a", " a", "a b", "  ~", "!", "*", "?", "^^^^^^", "[", "]", "0-9", long("x", 64), long(" ", 63) + "x"},
			[]string{" ", "a ", "a  ", "\\", "a\\b", "\x00", "a\x1fb", "a\x7f", "\x80", "\xff", "é", "a\n", "\t", long("x", 65), long(" ", 64)}},
		{"PN",
			[]string{"a", "Doe^John", "^", "^^^^", "A^B^C^D^E", " ^", long("x", 60) + "^^^^"},
			[]string{"^^^^^", "A^B^C^D^E^F", "^a^a^a^a^a", "a ", "^ ", " ", "a\\b", "\x7f", "é", long("x", 65), long("x", 61) + "^^^^"}},
		{"CS",
			[]string{"A", "Z", "0", "9", "_", " A", "A B", "MR_3 T2", long("A", 16), long(" ", 15) + "_"},
			[]string{"a", "z", "Aa", "A ", " ", "A^", "@", "[", "/", ":", "`", "{", "-", "+", ".", "*", "?", "\\", "A\x00", "É", long("A", 17), long(" ", 16)}},
		{"DA",
			[]string{"00000101", "00000229", "99991231", "20240229", "20000229", "16000229", "20230228", "19000228"},
			[]string{"0", "2020010", "202001011", "20200001", "20201301", "20200100", "20200132", "20230229", "19000229", "21000229", "20000230", "20240230", "20200431", "20209999", "2020-101", "2020 101", " 2020101", "+2020101", "2020010a", "2020.1.1", "２０２０", "20200101 ", "20200101-"}},
		{"TM",
			[]string{"00", "09", "19", "23", "0000", "0059", "2359", "000000", "000059", "235959", "235900"},
			[]string{"0", "000", "00000", "0000000", "00000000", "24", "30", "99", "2400", "240000", "0060", "2360", "006000", "000060", "1a", "a1", "+1", "-1", " 1", "1 ", "10:30", "1030.5", "10-", "-10", "\x00\x00", "٠"}},
		{"IS",
			[]string{"0", "-0", "+0", "7", "007", "-7", "+7", "2147483647", "+2147483647", "02147483647", "-2147483648", "-02147483648", "000000000007", "+00000000007", "-00000000000"},
			[]string{"+", "-", "+-1", "--1", "++1", "1-", "1+", "2147483648", "+2147483648", "-2147483649", "9999999999", "999999999999", "-99999999999", "0000000000007", "+000000000007", "1 ", " 1", "1_0", "0x1", "1e3", "1.0", "a", "\x00", "１"}},
	} {
		for _, v := range c.good {
			checks(t, c.kind, v, api.OK)
		}
		for _, v := range c.bad {
			checks(t, c.kind, v, api.ErrValue)
		}
	}
}

// Every year has its own days; the library's calendar knows them, too.
func TestCheckDays(t *testing.T) {
	for year := range 10000 {
		for month := range 14 {
			last := 0
			if month >= 1 && month <= 12 {
				last = time.Date(year, time.Month(month)+1, 0, 0, 0, 0, 0, time.UTC).Day()
			}
			for _, day := range []int{0, 1, 27, 28, 29, 30, 31, 32, 99} {
				want := api.ErrValue
				if day >= 1 && day <= last {
					want = api.OK
				}
				checks(t, "DA", fmt.Sprintf("%04d%02d%02d", year, month, day), want)
			}
		}
	}
}

func TestCheckTimes(t *testing.T) {
	for n := range 1000000 {
		h, m, s := n/10000, n/100%100, n%100
		v := fmt.Sprintf("%06d", n)
		for i, good := range []bool{h < 24, h < 24 && m < 60, h < 24 && m < 60 && s < 60} {
			want := api.ErrValue
			if good {
				want = api.OK
			}
			if e := value.Check("TM", v[:2*i+2]); e != want {
				t.Fatalf("Check(TM, %q) = %d, want %d", v[:2*i+2], e, want)
			}
		}
	}
}

// Each byte, alone and beside each other one.
func TestCheckPairs(t *testing.T) {
	for _, kind := range kinds {
		for a := range 256 {
			checks(t, kind, string([]byte{byte(a)}), referenceCheck(kind, string([]byte{byte(a)})))
			for b := range 256 {
				v := string([]byte{byte(a), byte(b)})
				checks(t, kind, v, referenceCheck(kind, v))
			}
		}
	}
}

func TestCheckAny(t *testing.T) {
	r := rand.New(rand.NewPCG(5, 5))
	for range 60000 {
		kind := pick(r, kinds...)
		v := near(r, pick(r, kind, kind, kind, pick(r, kinds...)))
		if r.IntN(9) == 0 {
			v = anyBytes(r)
		}
		checks(t, kind, v, referenceCheck(kind, v))
	}
}
