package archive_test

import (
	"slices"
	"strconv"
	"strings"
	"testing"

	"folio/api"
	"folio/archive"
)

// noPattern: of each kind, what is no pattern.
var noPattern = map[string][]string{
	"UI": {"x", "*", "1.*", "1?", "01", "1.", `1\`, `\1`, `1\\2`, "1-2"}, "LO": {"\x01", "\x7f", `a\b`, "é"}, "PN": {"\x01", `a\b`, `*\`}, "CS": {"\n", `A\B`, "Ä"},
	"DA": {"x", "*", "2020", "202001??", "20200230", "20200101-20200230", "-", "20200101-20200102-", `20200101\20200102`},
	"TM": {"24", "1", "*", "10-24", "-", "10--11"}, "IS": {"x", "*", "1-2", "+", "1.0", "2147483648", `1\2`},
}

// tags: all that DOC.md names, and some others.
func tags() []int {
	all := []int{0, 1, api.Picture - 1, api.Picture + 1, api.Word, api.Meaning, api.Identity + 1, 0x00990099, api.MaxTag}
	for tag := range kindOf {
		if tag != api.Level {
			all = append(all, tag)
		}
	}
	return all
}

// P1, P11: what is wrong by Decode.
func TestFindRefusesWhatIsNoDataSet(t *testing.T) {
	a := family(t)
	for _, c := range undecodable(bytes(t, query("PATIENT", nil, key(api.Identity))), api.ErrLevel) {
		if l, e := a.Find(c.data); e != c.want || len(l) != 0 {
			t.Errorf("P11: %s: Find = %q, %d, want %d", c.name, l, e, c.want)
		}
	}
}

// P11: a query has a level, of the kind CS, and that comes ahead of all else
// that is wrong with it.
func TestFindAsksForALevel(t *testing.T) {
	a := family(t)
	wrong := set(el(0, "LO", ""), el(api.Identity, "UI", ""), el(api.Birth, "DA", "x"), seq(api.Parts, nil, nil))
	for _, more := range [][]api.Element{nil, set(key(api.Identity)), wrong, place{"A", "1", "2", "3"}.elements()} {
		refuses(t, a, more, api.ErrLevel)
		refuses(t, a, with(more, seq(0x00990099, set(el(api.Level, "CS", "PATIENT")))), api.ErrLevel)
		for _, name := range []string{"", "FRAME", "patient", " PATIENT", "PATIENTS", "PATIEN", "*", "STUDY*", "?TUDY", `STUDY\IMAGE`, "STUDY SERIES", "PICTURE", "0"} {
			refuses(t, a, with(more, el(api.Level, "CS", name)), api.ErrLevel)
		}
		for _, name := range levelNames {
			for _, kind := range allKinds {
				if kind != "CS" && kind != "SQ" {
					refuses(t, a, with(more, el(api.Level, kind, name)), api.ErrLevel)
				}
			}
		}
		refuses(t, a, with(more, seq(api.Level, set(el(api.Level, "CS", "STUDY")))), api.ErrLevel)
	}
}

// P11: each level has the tags of its row and those above, each tag has its
// kind; both come ahead of names that are missing.
func TestFindAsksForKeys(t *testing.T) {
	a := family(t)
	for level, name := range levelNames {
		for _, tag := range tags() {
			for _, kind := range allKinds {
				row, there := rowOf[tag]
				want := api.OK
				switch {
				case !there || row > level:
					want = api.ErrKey
				case kind != kindOf[tag]:
					want = api.ErrKind
				}
				above := []string{"C", "9", "9"}[:level]
				switch {
				case want != api.OK:
					refuses(t, a, query(name, above, el(tag, kind, "")), want)
					refuses(t, a, query(name, nil, el(tag, kind, "")), want)
					if kind != "SQ" {
						refuses(t, a, query(name, above, el(tag, kind, "\x01")), want)
					}
				case slices.Contains(nameTags[:level], tag):
					refuses(t, a, query(name, above, key(tag)), api.ErrUnique)
				case level > 0:
					finds(t, a, query(name, above, key(tag)))
				default:
					if _, e := a.Find(bytes(t, query(name, nil, key(tag)))); e != api.OK {
						t.Errorf("P11: Find on %s for %x = %d", name, tag, e)
					}
				}
			}
		}
	}
}

// P11: what is asked for is a pattern; that comes ahead of names that are
// missing or not plain.
func TestFindAsksForPatterns(t *testing.T) {
	a := family(t)
	for level, name := range levelNames {
		for tag, row := range rowOf {
			if row > level {
				continue
			}
			for _, p := range noPattern[kindOf[tag]] {
				x := el(tag, kindOf[tag], p)
				refuses(t, a, query(name, []string{"A", "1", "2"}[:level], x), api.ErrPattern)
				refuses(t, a, query(name, nil, x), api.ErrPattern)
				refuses(t, archive.New(), query(name, nil, x), api.ErrPattern)
			}
		}
	}
}

// P11: of Parts one item is asked for at most, with Word and Meaning alone.
func TestFindAsksForOneItem(t *testing.T) {
	a := limbs(t)
	for _, above := range [][]string{{"A", "1", "2"}, nil} {
		refused := func(want api.Errno, items ...[]api.Element) {
			t.Helper()
			refuses(t, a, query("IMAGE", above, seq(api.Parts, items...)), want)
		}
		refused(api.ErrLong, nil, nil)
		refused(api.ErrLong, set(word("hand")), set(word("foot")))
		refused(api.ErrLong, set(el(api.Order, "LO", "")), nil)
		refused(api.ErrLong, nil, set(el(api.Word, "CS", "")))
		refused(api.ErrLong, make([][]api.Element, api.MaxItems)...)
		for _, tag := range append(tags(), api.Level) {
			if tag == api.Word || tag == api.Meaning {
				continue
			}
			for _, kind := range allKinds {
				refused(api.ErrKey, set(el(tag, kind, "")))
			}
			if tag < api.Word {
				refused(api.ErrKey, set(el(tag, "LO", ""), el(api.Word, "CS", ""), meaning(`a\b`)))
			} else {
				refused(api.ErrKind, set(el(api.Word, "CS", ""), el(tag, "LO", "")))
				refused(api.ErrPattern, set(word(`a\b`), el(tag, "LO", "")))
			}
		}
		refused(api.ErrKey, set(seq(api.Parts, set(word("hand")))))
		refused(api.ErrKind, set(seq(api.Word, set(word("hand")))))
		for _, kind := range allKinds {
			if kind != "LO" {
				refused(api.ErrKind, set(el(api.Word, kind, "")))
				refused(api.ErrKind, set(word("hand"), el(api.Meaning, kind, "")))
				refused(api.ErrKind, set(el(api.Word, kind, ""), meaning(`a\b`)))
				refused(api.ErrPattern, set(word(`a\b`), el(api.Meaning, kind, "")))
			}
		}
		for _, p := range noPattern["LO"] {
			refused(api.ErrPattern, set(word(p)))
			refused(api.ErrPattern, set(meaning(p)))
			refused(api.ErrPattern, set(word("hand"), meaning(p)))
			refused(api.ErrKind, set(el(api.Word, "PN", p)))
		}
		refuses(t, a, query("IMAGE", above, el(api.Parts, "LO", "hand")), api.ErrKind)
		refuses(t, a, query("SERIES", above, seq(api.Parts, nil, nil)), api.ErrKey)
	}
}

// P11: the names of the levels above are plain; that of the level itself need
// not be.
func TestFindAsksForNamesAbove(t *testing.T) {
	a := family(t)
	lays(t, a, api.OK, place{"C*", "4", "14", "14"})
	lays(t, a, api.OK, place{"?", "5", "15", "15"})
	above := []string{"A", "1", "2"}
	for level, name := range levelNames {
		for i, tag := range nameTags[:level] {
			wrong := []string{"", "1\\2", "2\\2"}
			if i == 0 {
				wrong = []string{"", "*", "?", "A*", "*A", "A?", "C*", "**"}
			}
			for _, v := range wrong {
				refuses(t, a, query(name, above[:level], el(tag, kindOf[tag], v)), api.ErrUnique)
				refuses(t, archive.New(), query(name, above[:level], el(tag, kindOf[tag], v)), api.ErrUnique)
			}
			refuses(t, a, query(name, above[:level], without(tag)), api.ErrUnique)
			refuses(t, a, query(name, above[:i]), api.ErrUnique)
		}
		if level > 0 {
			refuses(t, a, query(name, nil, key(nameTags[level])), api.ErrUnique)
		}
	}
	for i, name := range []string{"A^B", "A-B", " A B", "~", ".", "[", "A.", "%", strings.Repeat("x", 64)} { // plain, for all that
		n := strconv.Itoa(20 + i)
		lays(t, a, api.OK, place{name, n, n, n})
		tells(t, a, query("STUDY", []string{name}), api.Study, n)
	}
	tells(t, a, query("PATIENT", nil, el(api.Identity, "LO", "C*")), api.Identity, "C*")
	tells(t, a, query("PATIENT", nil, el(api.Identity, "LO", "?")), api.Identity, "%", ".", "?", "A", "B", "[", "a", "~")
}

// P1, P11: of several faults the first of the promise is the answer, and
// among the keys that of the first key.
func TestFindNamesTheFirstFault(t *testing.T) {
	a := family(t)
	keys := []struct {
		key  api.Element
		want api.Errno
	}{ // in the order of their tags
		{el(0x00080005, "LO", ""), api.ErrKey},
		{el(api.Day, "LO", ""), api.ErrKind},
		{el(api.Hour, "TM", "x"), api.ErrPattern},
		{el(api.Way, "CS", `A\B`), api.ErrPattern},
		{seq(api.Parts, nil, nil), api.ErrLong},
		{el(api.Birth, "IS", ""), api.ErrKind},
		{el(api.Study, "UI", "x"), api.ErrPattern},
		{el(api.Series, "LO", "x"), api.ErrKind},
		{el(0x00990099, "LO", ""), api.ErrKey},
	}
	for faults := range 1 << (len(keys) + 3) {
		want := api.OK
		q := query("IMAGE", []string{"A", "1", "99"})
		if faults&1 != 0 {
			q, want = with(q, key(api.Identity)), api.ErrUnique
		}
		for i := len(keys) - 1; i >= 0; i-- {
			if faults>>(i+3)&1 != 0 {
				q, want = with(q, keys[i].key), keys[i].want
			}
		}
		if faults&2 != 0 {
			q, want = with(q, el(api.Level, "CS", "NONE")), api.ErrLevel
		}
		data := bytes(t, q)
		if faults&4 != 0 {
			data, want = data+"\x00", api.ErrForm
		}
		if l, e := a.Find(data); e != want || len(l) != 0 {
			t.Fatalf("P11: Find(%+v) = %q, %d, want %d", q, l, e, want)
		}
	}
}
