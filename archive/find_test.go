package archive_test

import (
	"slices"
	"strconv"
	"strings"
	"testing"

	"folio/api"
	"folio/archive"
)

// P11: example 4 of the document.
func TestFindExample(t *testing.T) {
	a := archive.New()
	lays(t, a, api.OK, place{"A", "3.1", "2.1", "1.1"})
	lays(t, a, api.OK, place{"A", "3.1", "2.1", "1.2"})
	q := query("STUDY", []string{"A"}, key(api.SeriesIn))
	finds(t, a, q, with(q, el(api.SeriesIn, "IS", "1")))
	refuses(t, a, with(q, without(api.Identity)), api.ErrUnique)
	refuses(t, a, query("PATIENT", nil, key(api.Day)), api.ErrKey)
	got, e := a.Find(bytes(t, q))
	want := "\x08\x00\x52\x00CS\x06\x00STUDY \x10\x00\x20\x00LO\x02\x00A \x20\x00\x06\x12IS\x02\x001 "
	if e != api.OK || !slices.Equal(got, []string{want}) {
		t.Errorf("P11: Find = %q, %d, want %q", got, e, want)
	}
}

// P10, P11: on each level all of its row and those above can be asked for; an
// answer has its own level and counts, and of items Word and Meaning alone.
func TestFindAnswersWhatIsAskedFor(t *testing.T) {
	a := archive.New()
	word := set(el(api.Word, "LO", "hand"), el(api.Meaning, "LO", "left hand"))
	other := set(el(api.Order, "LO", "no"), el(api.Level, "CS", "NO"), el(0x00080102, "LO", "no"), el(api.Identity, "LO", "no"))
	both := set(other[0], other[1], word[0], other[2], word[1], other[3])
	stores(t, a, with(whole(), seq(api.Parts, both, nil, word[1:], other, word[:1])), api.OK)
	want := with(whole(), without(0x00990099), el(api.StudyCount, "IS", "1"), el(api.SeriesIn, "IS", "1"), el(api.PicturesIn, "IS", "1"),
		seq(api.Parts, word, nil, word[1:], nil, word[:1]))
	for level, name := range levelNames {
		q, answer := query(name, ordinary[:level]), set(el(api.Level, "CS", name))
		for _, x := range want {
			if rowOf[x.Tag] <= level && x.Tag != api.Level {
				if !slices.Contains(nameTags[:level], x.Tag) {
					q = with(q, key(x.Tag))
				}
				answer = append(answer, x)
			}
		}
		finds(t, a, q, answer)
		for _, x := range answer { // and one alone, asked for by itself
			if q := with(query(name, ordinary[:level]), x); x.Tag != api.Parts {
				finds(t, a, q, q)
			}
		}
	}
}

// P10: what a description lacks is empty.
func TestFindAnswersWhatIsMissing(t *testing.T) {
	a := archive.New()
	lays(t, a, api.OK, ordinary)
	for level, name := range levelNames {
		q := query(name, ordinary[:level])
		for tag := range kindOf {
			if rowOf[tag] <= level && tag != api.Level && !slices.Contains(nameTags[:], tag) {
				q = with(q, key(tag))
			}
		}
		want := slices.Clone(q)
		for i, x := range want {
			if kindOf[x.Tag] == "IS" && x.Tag != api.SeriesNo && x.Tag != api.PictureNo {
				want[i].Value = "1"
			}
		}
		finds(t, a, q, want)
		finds(t, a, query(name, ordinary[:level]), query(name, ordinary[:level]))
	}
	finds(t, a, query("STUDY", []string{"A"}, el(api.Order, "LO", "*")), query("STUDY", []string{"A"}, key(api.Order)))
	finds(t, a, query("STUDY", []string{"A"}, el(api.Order, "LO", "?*")))
	finds(t, a, query("STUDY", []string{"A"}, el(api.Day, "DA", "-20200101")))
	finds(t, a, query("STUDY", []string{"A"}, el(api.Hour, "TM", "00-")))
	finds(t, a, query("SERIES", []string{"A", "1"}, el(api.SeriesNo, "IS", "0")))
}

// P12: a value fits a pattern of its kind.
func TestFindTakesPatterns(t *testing.T) {
	a := archive.New()
	stores(t, a, whole(), api.OK)
	fit := map[int][]string{
		api.Identity: {"", "*", "?", "A", "A*", "*A"}, api.Patient: {"", "doe^jane", "D*", "?oe^*E"}, api.Birth: {"", "19800229", "-19800229", "19800229-", "19700101-20000101"},
		api.StudyCount: {"", "1", "01", "+1"}, api.Study: {"", "1", `2\1`}, api.Day: {"", "20200131", "20200101-20200131"},
		api.Hour: {"", "23", "2359", "235900", "235930", "2300-23", "-2359", "22-"}, api.Order: {"", "x*?", "x??", "x*"}, api.SeriesIn: {"", "1", "0001"},
		api.Series: {"", "1.1", `1.1\1.2`}, api.Way: {"", "CT", "C?", "*T*"}, api.SeriesNo: {"", "12", "+12", "0012"}, api.PicturesIn: {"", "1"},
		api.Picture: {"", "1.1.1", `1.1\1.1.1`}, api.PictureNo: {"", "3", "003", "+03"},
	}
	other := map[int][]string{
		api.Identity: {"a", "??", "B*", "AA"}, api.Patient: {"Doe", "doe^jane?", "Jane*"}, api.Birth: {"19800228", "-19800228", "19800301-", "20000101-19700101"},
		api.StudyCount: {"7", "0", "-1", "11"}, api.Study: {"1.1", `2\3`}, api.Day: {"20200130", "20200201-"},
		api.Hour: {"22", "2358", "2358-235859", "-2358"}, api.Order: {"X*", "x", "x???"}, api.SeriesIn: {"-7", "2"},
		api.Series: {"1", `1.2\1.3`}, api.Way: {"MR", "ct", "CT?"}, api.SeriesNo: {"-12", "2"}, api.PicturesIn: {"0", "10"},
		api.Picture: {"1.1", `1.1.2\1.1.11`}, api.PictureNo: {"-3", "30"},
	}
	for level, name := range levelNames {
		for tag, patterns := range fit {
			if rowOf[tag] > level || slices.Contains(nameTags[:level], tag) {
				continue
			}
			has := valueOf(whole(), tag)
			if rowOf[tag] < 3 && tag == countTags[rowOf[tag]] {
				has = "1"
			}
			for _, p := range patterns {
				q := query(name, ordinary[:level], el(tag, kindOf[tag], p))
				finds(t, a, q, with(q, el(tag, kindOf[tag], has)))
			}
			for _, p := range other[tag] {
				finds(t, a, query(name, ordinary[:level], el(tag, kindOf[tag], p)))
			}
		}
	}
	for _, c := range []struct {
		day, hour string
		fits      bool
	}{{"20200131", "23", true}, {"20200131", "22", false}, {"20200130", "23", false}, {"20200130", "22", false}} { // each key must be fitted
		q := query("STUDY", []string{"A"}, el(api.Day, "DA", c.day), el(api.Hour, "TM", c.hour))
		if c.fits {
			finds(t, a, q, with(q, el(api.Hour, "TM", "2359")))
		} else {
			finds(t, a, q)
		}
	}
}

// family: some pictures; the names of one level are those of another, too.
func family(t *testing.T) *archive.Archive {
	t.Helper()
	a := archive.New()
	for _, p := range []place{
		{"B", "9", "9", "9"}, {"A", "1", "2", "3"}, {"A", "1", "2", "10"}, {"A", "1", "2", "1"}, {"A", "1", "10", "2"},
		{"A", "10", "1", "4"}, {"A", "9.1", "3", "5"}, {"10", "2", "4", "6"}, {"a", "3", "5", "7"},
	} {
		lays(t, a, api.OK, p)
	}
	return a
}

// P10, P11: what there is on a level, each once, in the order of the names by
// bytes, below what is named above.
func TestFindGoesByLevels(t *testing.T) {
	a := family(t)
	tells(t, a, query("PATIENT", nil), api.Identity, "10", "A", "B", "a")
	tells(t, a, query("STUDY", []string{"A"}), api.Study, "1", "10", "9.1")
	tells(t, a, query("STUDY", []string{"10"}), api.Study, "2")
	tells(t, a, query("SERIES", []string{"A", "1"}), api.Series, "10", "2")
	tells(t, a, query("SERIES", []string{"A", "10"}), api.Series, "1")
	tells(t, a, query("IMAGE", []string{"A", "1", "2"}), api.Picture, "1", "10", "3")
	tells(t, a, query("IMAGE", []string{"A", "1", "10"}), api.Picture, "2")
	for _, q := range [][]api.Element{
		query("STUDY", []string{"C"}), query("STUDY", []string{"AA"}), query("STUDY", []string{"b"}),
		query("SERIES", []string{"B", "1"}), query("SERIES", []string{"A", "9"}), query("SERIES", []string{"A", "1.1"}),
		query("IMAGE", []string{"A", "1", "1"}), query("IMAGE", []string{"A", "10", "2"}), query("IMAGE", []string{"B", "1", "2"}), query("IMAGE", []string{"A", "1", "9"}),
	} {
		finds(t, a, q)
	}
	tells(t, a, query("PATIENT", nil, el(api.Identity, "LO", "?")), api.Identity, "A", "B", "a")
	tells(t, a, query("STUDY", []string{"A"}, el(api.Study, "UI", `10\2\1`)), api.Study, "1", "10")
	tells(t, a, query("IMAGE", []string{"A", "1", "2"}, el(api.Picture, "UI", `3\2\1`)), api.Picture, "1", "3")
	level := query("IMAGE", []string{"A", "1", "2"})
	finds(t, a, level, level, level, level) // the name itself need not be asked for
	finds(t, archive.New(), query("PATIENT", nil, key(api.Identity)))
	finds(t, archive.New(), query("IMAGE", []string{"A", "1", "2"}))
}

// P10, P12: counts are those of what it belongs to, on its level and above.
func TestFindCounts(t *testing.T) {
	a := family(t)
	tells(t, a, query("PATIENT", nil), api.StudyCount, "1", "3", "1", "1")
	tells(t, a, query("STUDY", []string{"A"}), api.SeriesIn, "2", "1", "1")
	tells(t, a, query("STUDY", []string{"A"}), api.StudyCount, "3", "3", "3")
	tells(t, a, query("SERIES", []string{"A", "1"}), api.PicturesIn, "1", "3")
	tells(t, a, query("SERIES", []string{"A", "1"}), api.SeriesIn, "2", "2")
	tells(t, a, query("SERIES", []string{"A", "1"}), api.StudyCount, "3", "3")
	tells(t, a, query("IMAGE", []string{"A", "1", "2"}), api.PicturesIn, "3", "3", "3")
	tells(t, a, query("IMAGE", []string{"A", "1", "2"}), api.SeriesIn, "2", "2", "2")
	tells(t, a, query("IMAGE", []string{"A", "1", "2"}), api.StudyCount, "3", "3", "3")
	q := query("PATIENT", nil, el(api.StudyCount, "IS", "+003"), key(api.Identity))
	finds(t, a, q, with(q, el(api.StudyCount, "IS", "3"), el(api.Identity, "LO", "A")))
	finds(t, a, with(q, el(api.StudyCount, "IS", "2")))
	deletes(t, a, "5", true)
	tells(t, a, query("STUDY", []string{"A"}), api.StudyCount, "2", "2")
	lays(t, a, api.OK, place{"A", "1", "10", "3"}) // it changes its series
	tells(t, a, query("SERIES", []string{"A", "1"}), api.PicturesIn, "2", "2")
}

// P10: the description of that picture that was laid in last tells, of all
// that it belongs to.
func TestFindTellsByTheLast(t *testing.T) {
	a := archive.New()
	lay := func(name, patient string, more ...api.Element) {
		t.Helper()
		stores(t, a, with(place{"A", "1", "2", name}.elements(), append(more, el(api.Patient, "PN", patient))...), api.OK)
	}
	says := func(want string) {
		t.Helper()
		for level, name := range levelNames[:3] {
			tells(t, a, query(name, []string{"A", "1", "2"}[:level], el(api.Identity, "LO", "A")), api.Patient, want)
		}
	}
	lay("5", "one")
	says("one")
	lay("3", "two")
	says("two")
	lay("9", "three")
	says("three")
	tells(t, a, query("IMAGE", []string{"A", "1", "2"}), api.Patient, "two", "one", "three") // each picture has its own
	lay("5", "four")                                                                         // replaced
	says("four")
	lay("3", "two") // laid in again as it was
	says("two")
	deletes(t, a, "9", true) // not the last
	says("two")
	deletes(t, a, "3", true)
	says("four")
	stores(t, a, with(place{"A", "1", "2", "7"}.elements(), el(api.Patient, "LO", "five")), api.ErrKind) // refused
	says("four")
	lays(t, a, api.OK, place{"A", "1", "2", "0"}) // it lacks the element: the others do not help out
	says("")
	finds(t, a, query("PATIENT", nil, el(api.Patient, "PN", "four")))
	lay("5", "")
	says("")
	lay("5", "six")
	says("six")
	lays(t, a, api.OK, place{"B", "9", "9", "5"}) // gone elsewhere
	says("")
	tells(t, a, query("PATIENT", nil), api.Identity, "A", "B")
	deletes(t, a, "0", true)
	tells(t, a, query("PATIENT", nil), api.Identity, "B")
}

// P10: each thing has a last picture of its own, level by level.
func TestFindTellsByTheLastOfEach(t *testing.T) {
	a := archive.New()
	for i, p := range []place{{"A", "1", "1", "1"}, {"A", "2", "2", "2"}, {"A", "1", "3", "3"}, {"A", "1", "1", "4"}, {"A", "2", "4", "5"}, {"A", "1", "3", "0"}} {
		stores(t, a, with(p.elements(), el(api.Patient, "PN", strconv.Itoa(i))), api.OK)
	}
	tells(t, a, query("PATIENT", nil), api.Patient, "5")
	tells(t, a, query("STUDY", []string{"A"}), api.Patient, "5", "4")
	tells(t, a, query("SERIES", []string{"A", "1"}), api.Patient, "3", "5")
	tells(t, a, query("SERIES", []string{"A", "2"}), api.Patient, "1", "4")
	tells(t, a, query("IMAGE", []string{"A", "1", "1"}), api.Patient, "0", "3")
	q := query("SERIES", []string{"A", "1"}, el(api.Patient, "PN", "3"), key(api.Series))
	finds(t, a, q, with(q, el(api.Series, "UI", "1")))
	finds(t, a, query("STUDY", []string{"A"}, el(api.Patient, "PN", "3"))) // a picture that is not the last does not fit for it
}

// P10: what a series has is told by one description, not put together from
// several.
func TestFindTakesOneDescription(t *testing.T) {
	a := archive.New()
	p := place{"A", "1", "2", "1"}
	stores(t, a, with(p.elements(), el(api.Way, "CS", "CT"), el(api.SeriesNo, "IS", "1"), el(api.Day, "DA", "20200101")), api.OK)
	p[3] = "2"
	stores(t, a, with(p.elements(), el(api.Way, "CS", "MR"), el(api.Birth, "DA", "19990101")), api.OK)
	q := query("SERIES", p[:2], key(api.Way), key(api.SeriesNo), key(api.Day), key(api.Birth))
	finds(t, a, q, with(q, el(api.Way, "CS", "MR"), el(api.Birth, "DA", "19990101")))
	finds(t, a, with(q, el(api.Way, "CS", "CT")))
	finds(t, a, with(q, el(api.SeriesNo, "IS", "1")))
}

// P2: archives do not touch one another.
func TestFindAsksOneArchive(t *testing.T) {
	a, b := archive.New(), archive.New()
	stores(t, a, with(ordinary.elements(), el(api.Patient, "PN", "a")), api.OK)
	finds(t, b, query("PATIENT", nil))
	stores(t, b, with(ordinary.elements(), el(api.Patient, "PN", "b")), api.OK)
	lays(t, b, api.OK, place{"B", "2", "2", "2"})
	tells(t, a, query("PATIENT", nil), api.Patient, "a")
	tells(t, b, query("PATIENT", nil), api.Patient, "b", "")
	stores(t, a, with(place{"A", "1", "1.1", "9"}.elements(), el(api.Patient, "PN", "c")), api.OK)
	tells(t, a, query("PATIENT", nil), api.Patient, "c")
	tells(t, b, query("PATIENT", nil), api.Patient, "b", "")
	tells(t, b, query("STUDY", []string{"A"}), api.SeriesIn, "1")
	deletes(t, a, ordinary[3], true)
	tells(t, b, query("IMAGE", ordinary[:3]), api.Picture, ordinary[3])
}

// P1, P2: an answer is new memory, its spare room too; asking changes
// nothing.
func TestFindAnswersItsOwn(t *testing.T) {
	a := family(t)
	n := a.Count()
	q := bytes(t, query("IMAGE", []string{"A", "1", "2"}, key(api.Picture)))
	first, _ := a.Find(q)
	kept := slices.Clone(first)
	second, _ := a.Find(q)
	for _, l := range [][]string{second, second[:cap(second)]} {
		for i := range l {
			l[i] = "mine"
		}
	}
	if third, e := a.Find(q); e != api.OK || !slices.Equal(third, kept) || !slices.Equal(first, kept) {
		t.Errorf("P2: Find = %q, then %q, want %q", first, third, kept)
	}
	if a.Count() != n {
		t.Errorf("P11: Count = %v behind Find, want %v", a.Count(), n)
	}
	deletes(t, a, "10", true)
	if !slices.Equal(first, kept) {
		t.Errorf("P2: an earlier answer has become %q", first)
	}
}

// P11: a query may be written with marks and more pads.
func TestFindReadsAsDecodeDoes(t *testing.T) {
	a := archive.New()
	stores(t, a, whole(), api.OK)
	q := "\x08\x00\x52\x00CS\x08\x00IMAGE   \x08\x00\x18\x22SQ\x00\x00\xff\xff\xff\xff\xfe\xff\x00\xe0\xff\xff\xff\xff" +
		"\x08\x00\x00\x01LO\x06\x00hand  \xfe\xff\x0d\xe0\x00\x00\x00\x00\xfe\xff\xdd\xe0\x00\x00\x00\x00" +
		"\x10\x00\x20\x00LO\x04\x00A   \x20\x00\x0d\x00UI\x02\x001\x00\x20\x00\x0e\x00UI\x06\x001.1\x00\x00\x00"
	want := bytes(t, query("IMAGE", ordinary[:3], seq(api.Parts, nil, set(el(api.Word, "LO", "hand"), el(api.Meaning, "LO", "left hand")))))
	if got, e := a.Find(q); e != api.OK || !slices.Equal(got, []string{want}) {
		t.Errorf("P11: Find = %q, %d, want %q", got, e, want)
	}
}

// P11: as much as there can be on each level, in order.
func TestFindInAFullArchive(t *testing.T) {
	patients, studies, series, pictures := archive.New(), archive.New(), archive.New(), archive.New()
	var all []string
	for i := range api.MaxPictures {
		n := strconv.Itoa(i * 29 % 48)
		lays(t, patients, api.OK, place{n, n, n, n})
		lays(t, studies, api.OK, place{"A", n, n, n})
		lays(t, series, api.OK, place{"A", "1", n, n})
		lays(t, pictures, api.OK, place{"A", "1", "2", n})
		all = append(all, n)
	}
	slices.Sort(all)
	tells(t, patients, query("PATIENT", nil), api.Identity, all...)
	tells(t, studies, query("STUDY", []string{"A"}), api.Study, all...)
	tells(t, series, query("SERIES", []string{"A", "1"}), api.Series, all...)
	tells(t, pictures, query("IMAGE", []string{"A", "1", "2"}), api.Picture, all...)
	tells(t, studies, query("PATIENT", nil), api.StudyCount, "48")
	tells(t, series, query("STUDY", []string{"A"}), api.SeriesIn, "48")
	tells(t, pictures, query("SERIES", []string{"A", "1"}), api.PicturesIn, "48")
}

// P11: an answer with all that can be asked for, each as long as it may be,
// is a data set still.
func TestFindAnswersAreDataSets(t *testing.T) {
	a := archive.New()
	long, name := strings.Repeat("x", 64), strings.Repeat("1", 64)
	words := make([][]api.Element, api.MaxItems)
	for i := range words {
		words[i] = set(el(api.Word, "LO", long), el(api.Meaning, "LO", long))
	}
	l := with(place{long, name, name, name}.elements(),
		el(api.Patient, "PN", long), el(api.Birth, "DA", "20200101"), el(api.Day, "DA", "20200101"), el(api.Hour, "TM", "101010"), el(api.Order, "LO", long),
		el(api.Way, "CS", "ABCDEFGHIJKLMNOP"), el(api.SeriesNo, "IS", "-02147483648"), el(api.PictureNo, "IS", "+02147483647"), seq(api.Parts, words...))
	stores(t, a, l, api.OK)
	q := query("IMAGE", []string{long, name, name})
	for _, x := range l {
		if !slices.Contains(nameTags[:3], x.Tag) {
			q = with(q, key(x.Tag))
		}
	}
	q = with(q, key(api.StudyCount), key(api.SeriesIn), key(api.PicturesIn))
	want := with(l, el(api.Level, "CS", "IMAGE"), el(api.StudyCount, "IS", "1"), el(api.SeriesIn, "IS", "1"), el(api.PicturesIn, "IS", "1"))
	finds(t, a, q, want)
}
