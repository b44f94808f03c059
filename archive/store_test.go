package archive_test

import (
	"strconv"
	"testing"

	"folio/api"
	"folio/archive"
)

var ordinary = place{"A", "1", "1.1", "1.1.1"}

// whole: an ordinary description with all elements of the table, and more.
func whole() []api.Element {
	return with(ordinary.elements(),
		el(api.Patient, "PN", "Doe^Jane"), el(api.Birth, "DA", "19800229"), el(api.StudyCount, "IS", "7"),
		el(api.Day, "DA", "20200131"), el(api.Hour, "TM", "2359"), el(api.Order, "LO", "x*?"), el(api.SeriesIn, "IS", "-7"),
		el(api.Way, "CS", "CT"), el(api.SeriesNo, "IS", "+12"), el(api.PicturesIn, "IS", "0"),
		el(api.PictureNo, "IS", "003"), seq(api.Parts, nil, set(el(api.Word, "LO", "hand"), el(api.Meaning, "LO", "left hand"))),
		el(api.Level, "CS", "IMAGE"), el(0x00990099, "LO", "else"))
}

// P7, P8, P9.
func TestStoreLaysIn(t *testing.T) {
	a := archive.New()
	counts(t, a, 0, 0, 0, 0)
	stores(t, a, whole(), api.OK)
	counts(t, a, 1, 1, 1, 1)
	lays(t, a, api.OK, place{"A", "1", "1.1", "1.1.2"})
	counts(t, a, 1, 1, 1, 2)
	lays(t, a, api.OK, place{"A", "1", "1.2", "1.2.1"})
	counts(t, a, 1, 1, 2, 3)
	lays(t, a, api.OK, place{"A", "2", "2.1", "2.1.1"})
	counts(t, a, 1, 2, 3, 4)
	lays(t, a, api.OK, place{"B", "3", "3.1", "3.1.1"})
	counts(t, a, 2, 3, 4, 5)
}

// P8: what is named so already is taken out ahead of it.
func TestStoreReplaces(t *testing.T) {
	a := archive.New()
	for range 3 {
		stores(t, a, whole(), api.OK)
		counts(t, a, 1, 1, 1, 1)
	}
	lays(t, a, api.OK, place{"B", "2", "2.1", "1.1.1"})
	counts(t, a, 1, 1, 1, 1)
	lays(t, a, api.OK, place{"C", "1", "2.2", "1.1.2"}) // nothing of the one replaced is left
	lays(t, a, api.OK, place{"C", "3", "1.1", "1.1.3"})
	counts(t, a, 2, 3, 3, 3)
	deletes(t, a, "1.1.1", true)
	deletes(t, a, "1.1.1", false)
	counts(t, a, 1, 2, 2, 2)
}

// P8: names are held against each other by bytes, level by level.
func TestStoreTellsNamesApart(t *testing.T) {
	a := archive.New()
	all := []place{
		{"1", "1", "1", "1"}, {"1", "1", "1", "10"}, {"1", "1", "1", "1.0"}, {"1", "1", "10", "2"},
		{"01", "2", "2", "3"}, {" 1", "3", "3", "4"}, {"+1", "4", "4", "5"}, {"a", "5", "5", "6"}, {"A", "6", "6", "7"},
		{"*", "7", "7", "8"}, {"?", "8", "8", "9"}, {"2", "1.1", "1.1", "1.1"}, {"2", "1.10", "1.10", "1.10"},
	}
	for i, p := range all {
		lays(t, a, api.OK, p)
		if n := a.Count()[3]; n != i+1 {
			t.Errorf("P9: %d pictures, want %d", n, i+1)
		}
	}
	counts(t, a, 9, 10, 11, 13)
	lays(t, a, api.ErrPlace, place{"A", "5", "5", "99"})
	lays(t, a, api.ErrPlace, place{"1 1", "1", "1", "99"})
	counts(t, a, 9, 10, 11, 13)
}

// P4, P8: however the bytes tell it, it is the same description.
func TestStoreReadsAnyWriting(t *testing.T) {
	item := "\xfe\xff\x00\xe0\xff\xff\xff\xff" + "\x08\x00\x00\x01LO\x04\x00a   " + "\xfe\xff\x0d\xe0\x00\x00\x00\x00"
	data := "\x08\x00\x18\x00UI\x0a\x001.1.1\x00\x00\x00\x00\x00" +
		"\x08\x00\x18\x22SQ\x00\x00\xff\xff\xff\xff" + item + item + "\xfe\xff\xdd\xe0\x00\x00\x00\x00" +
		"\x10\x00\x20\x00LO\x04\x00A   " +
		"\x20\x00\x0d\x00UI\x04\x001\x00\x00\x00" +
		"\x20\x00\x0e\x00UI\x04\x001.1\x00"
	a := archive.New()
	if e := a.Store(data); e != api.OK {
		t.Fatalf("P8: Store = %d", e)
	}
	counts(t, a, 1, 1, 1, 1)
	stores(t, a, ordinary.elements(), api.OK)
	counts(t, a, 1, 1, 1, 1)
	lays(t, a, api.OK, place{"A", "1", "1.1", "1.1.2"})
	counts(t, a, 1, 1, 1, 2)
	deletes(t, a, "1.1.1", true)
}

// P8: what is wrong by Decode.
func TestStoreRefusesWhatIsNoDataSet(t *testing.T) {
	for _, c := range undecodable(bytes(t, ordinary.elements()), api.ErrUnique) {
		a := archive.New()
		if e := a.Store(c.data); e != c.want {
			t.Errorf("P8: %s: Store = %d, want %d", c.name, e, c.want)
		}
		counts(t, a, 0, 0, 0, 0)
	}
}

// P8: each tag has its kind, counts and Level too.
func TestStoreAsksForKinds(t *testing.T) {
	a := archive.New()
	for tag, kind := range kindOf {
		for _, other := range allKinds {
			want := api.ErrKind
			if other == kind {
				want = api.OK
			}
			x := el(tag, other, "")
			for _, y := range whole() {
				if want == api.OK && y.Tag == tag {
					x = y
				}
			}
			stores(t, a, with(whole(), x), want)
		}
	}
	for _, tag := range []int{api.Word, api.Meaning} {
		for _, other := range allKinds {
			want := api.ErrKind
			if other == "LO" {
				want = api.OK
			}
			for n := range api.MaxItems {
				items := make([][]api.Element, api.MaxItems)
				items[n] = set(el(tag, other, ""))
				stores(t, a, with(whole(), seq(api.Parts, items...)), want)
			}
		}
	}
	counts(t, a, 1, 1, 1, 1)
}

// P8: each kind has its values.
func TestStoreAsksForValues(t *testing.T) {
	a := archive.New()
	wrong := map[string][]string{
		"UI": {"x", "01", "1.", "1 ", "*", `1\2`}, "CS": {"a", "A-", "ABCDEFGHIJKLMNOPQ", "*"}, "LO": {"\x00", "\x7f", `a\b`, "é"},
		"PN": {"a^b^c^d^e^f", "\n"}, "DA": {"20200230", "2020", "20200101-", "*"}, "TM": {"24", "1", "10-11"}, "IS": {"x", "1.0", "2147483648", "*"},
	}
	right := map[string][]string{
		"UI": {"1.1.1", "0"}, "CS": {"", "A_1 B", "IMAGE", "MR"}, "LO": {"A", "~*?^"},
		"PN": {"", "^^^^", "a*"}, "DA": {"", "20000229"}, "TM": {"", "00", "235959"}, "IS": {"", "-2147483648", "+0"},
	}
	for tag, kind := range kindOf {
		for _, v := range wrong[kind] {
			stores(t, a, with(whole(), el(tag, kind, v)), api.ErrValue)
		}
		for _, v := range right[kind] {
			b := archive.New()
			stores(t, b, with(whole(), el(tag, kind, v)), api.OK)
			counts(t, b, 1, 1, 1, 1)
		}
	}
	for _, tag := range []int{api.Word, api.Meaning} {
		for n := range api.MaxItems {
			items := make([][]api.Element, api.MaxItems)
			for _, v := range wrong["LO"] {
				items[n] = set(el(tag, "LO", v))
				stores(t, a, with(whole(), seq(api.Parts, items...)), api.ErrValue)
			}
			for _, v := range append(right["LO"], "") {
				items[n] = set(el(tag, "LO", v))
				stores(t, archive.New(), with(whole(), seq(api.Parts, items...)), api.OK)
			}
		}
	}
	counts(t, a, 0, 0, 0, 0)
}

// P8: elements with other tags are of no use, nor are those of the table in
// items, nor Word and Meaning elsewhere.
func TestStoreOverlooksWhatIsOfNoUse(t *testing.T) {
	odd := set(el(api.Word, "IS", "x"), el(api.Meaning, "UI", "x"))
	inParts := set(el(api.Picture, "LO", "é"), el(api.Level, "DA", "x"), el(api.Patient, "LO", "\x01"), el(api.Identity, "UI", "A"), el(api.StudyCount, "IS", "x"))
	for _, x := range []api.Element{
		odd[0], odd[1],
		el(0, "UI", "x"), el(0x00990099, "DA", "x"), el(api.MaxTag, "TM", "é"),
		el(api.Picture-1, "IS", "x"), el(api.Picture+1, "IS", "x"), el(api.Study-1, "IS", "x"), el(api.Series+1, "IS", "x"),
		seq(0x00990099, odd, inParts), seq(api.Word, odd),
		seq(0x00990099, set(seq(api.Parts, odd))),
		seq(api.Parts, inParts), seq(api.Parts, set(seq(0x00080101, odd))), seq(api.Parts, set(seq(api.Parts, odd))),
	} {
		a := archive.New()
		stores(t, a, with(whole(), x), api.OK)
		counts(t, a, 1, 1, 1, 1)
	}
}

// P8: all four names are needed, and stand in the description itself.
func TestStoreAsksForNames(t *testing.T) {
	a := archive.New()
	for tag := range kindOf {
		l := whole()
		want := api.OK
		switch tag {
		case api.Identity, api.Study, api.Series, api.Picture:
			want = api.ErrUnique
			stores(t, a, with(l, el(tag, kindOf[tag], "")), want)
			stores(t, a, with(l, without(tag), seq(api.Parts, set(el(tag, kindOf[tag], "1")))), want)
		}
		stores(t, a, with(l, without(tag)), want)
	}
	counts(t, a, 1, 1, 1, 1)
	stores(t, a, nil, api.ErrUnique)
	stores(t, a, set(el(api.Patient, "PN", "Doe")), api.ErrUnique)
	counts(t, a, 1, 1, 1, 1)
}

// P8: a series stands in one study, a study belongs to one patient; the
// picture that is replaced does not count.
func TestStoreAsksForOnePlace(t *testing.T) {
	a := archive.New()
	lays(t, a, api.OK, place{"A", "1", "1.1", "1"})
	lays(t, a, api.OK, place{"A", "1", "1.1", "2"})
	lays(t, a, api.OK, place{"A", "1", "1.2", "3"})
	lays(t, a, api.OK, place{"A", "2", "2.1", "4"})
	lays(t, a, api.OK, place{"B", "3", "3.1", "5"})
	for _, p := range []place{
		{"A", "2", "1.1", "9"}, // a series in two studies, of one patient
		{"B", "3", "1.1", "9"}, // or of two
		{"C", "9", "1.2", "9"}, // or of a new one
		{"A", "1", "2.1", "9"},
		{"B", "1", "9", "9"}, // a study of two patients, with a new series
		{"C", "3", "9", "9"},
		{"B", "1", "1.1", "9"}, // or one that it has
		{"B", "2", "1.1", "9"}, // both
		{"A", "2", "1.1", "1"}, // the other picture of the series stays
		{"B", "1", "1.1", "1"},
		{"B", "1", "9", "1"},
		{"B", "1", "1.2", "3"}, // alone in its series, not in its study
		{"C", "9", "1.1", "5"}, // alone in its study, not welcome in that series
	} {
		lays(t, a, api.ErrPlace, p)
		counts(t, a, 2, 3, 4, 5)
	}
	lays(t, a, api.OK, place{"B", "3", "1.2", "3"}) // it was alone in its series
	counts(t, a, 2, 3, 4, 5)
	lays(t, a, api.OK, place{"C", "2", "2.1", "4"}) // it was alone in its study
	counts(t, a, 3, 3, 4, 5)
	deletes(t, a, "2", true)
	lays(t, a, api.OK, place{"D", "1", "1.1", "1"}) // now it is alone
	counts(t, a, 3, 3, 4, 4)
}

// P8: a picture that is refused leaves the one of its name where it is.
func TestStoreRefusesAndKeeps(t *testing.T) {
	a := archive.New()
	lays(t, a, api.OK, place{"A", "1", "1.1", "1"})
	lays(t, a, api.OK, place{"B", "2", "2.1", "2"})
	lays(t, a, api.ErrPlace, place{"C", "2", "3.1", "1"})
	stores(t, a, with(place{"C", "3", "3.1", "1"}.elements(), el(api.Day, "LO", "")), api.ErrKind)
	stores(t, a, with(place{"C", "3", "3.1", "1"}.elements(), el(api.Day, "DA", "x")), api.ErrValue)
	stores(t, a, with(place{"C", "3", "3.1", "1"}.elements(), el(api.Study, "UI", "")), api.ErrUnique)
	counts(t, a, 2, 2, 2, 2)
	lays(t, a, api.ErrPlace, place{"B", "1", "9", "9"})
	lays(t, a, api.ErrPlace, place{"B", "2", "1.1", "9"})
	lays(t, a, api.OK, place{"C", "3", "3.1", "9"})
	deletes(t, a, "1", true)
}

// P8: so many pictures and no more, unless one is replaced or taken out.
func TestStoreFull(t *testing.T) {
	a := full(t)
	counts(t, a, 1, 1, 1, 48)
	for _, p := range []place{{"A", "1", "2", "48"}, {"A", "1", "3", "48"}, {"B", "4", "4", "48"}} {
		lays(t, a, api.ErrFull, p)
	}
	counts(t, a, 1, 1, 1, 48)
	for i := range api.MaxPictures {
		lays(t, a, api.OK, place{"A", "1", "3", strconv.Itoa(i)})
		lays(t, a, api.ErrFull, place{"A", "1", "2", "48"})
	}
	counts(t, a, 1, 1, 1, 48)
	deletes(t, a, "7", true)
	lays(t, a, api.OK, place{"A", "1", "3", "48"})
	lays(t, a, api.ErrFull, place{"A", "1", "3", "7"})
	lays(t, a, api.OK, place{"A", "1", "3", "48"})
	counts(t, a, 1, 1, 1, 48)
}

// P8: 48 pictures that have nothing in common.
func TestStoreFullOfPatients(t *testing.T) {
	a := archive.New()
	for i := range 60 {
		n := strconv.Itoa(i)
		want := api.OK
		if i >= 48 {
			want = api.ErrFull
		}
		lays(t, a, want, place{"P" + n, n, n, n})
	}
	counts(t, a, 48, 48, 48, 48)
}

// P1, P8: the first error of the promise is the answer, whatever else is
// wrong.
func TestStoreNamesTheFirstFault(t *testing.T) {
	a := full(t)
	errors := []api.Errno{api.ErrForm, api.ErrKind, api.ErrValue, api.ErrUnique, api.ErrPlace, api.ErrFull}
	for faults := range 1 << len(errors) {
		want := api.OK
		for i := len(errors) - 1; i >= 0; i-- {
			if faults>>i&1 != 0 {
				want = errors[i]
			}
		}
		l := place{"A", "1", "2", "5"}.elements()
		if faults&2 != 0 {
			l = with(l, el(api.PicturesIn, "LO", "1"))
		}
		if faults&4 != 0 {
			l = with(l, el(api.Day, "DA", "x"))
		}
		if faults&16 != 0 {
			l = with(l, el(api.Study, "UI", "9"))
		}
		if faults&32 != 0 {
			l = with(l, el(api.Picture, "UI", "99"))
		}
		if faults&8 != 0 {
			l = with(l, without(api.Identity))
		}
		data := bytes(t, l)
		if faults&1 != 0 {
			data += "\x00"
		}
		if e := a.Store(data); e != want {
			t.Errorf("P8: faults %06b: Store = %d, want %d", faults, e, want)
		}
		counts(t, a, 1, 1, 1, 48)
	}
}

// P8: a wrong kind comes ahead of a wrong value, and this ahead of a missing
// name, wherever they stand.
func TestStoreNamesKindsFirst(t *testing.T) {
	kinds := set(el(api.Picture, "LO", "1"), seq(api.Parts, nil, set(el(api.Meaning, "CS", "X"))), el(api.Level, "LO", "X"), el(api.PicturesIn, "CS", "1"))
	values := set(el(api.Day, "DA", "x"), el(api.Level, "CS", "x"), el(api.Study, "UI", "x"), el(api.SeriesIn, "IS", "x"), seq(api.Parts, set(el(api.Word, "LO", "é"))))
	for _, k := range kinds {
		for _, v := range values {
			if k.Tag == v.Tag {
				continue
			}
			stores(t, archive.New(), with(whole(), v, k), api.ErrKind)
			stores(t, archive.New(), with(whole(), v, k, without(api.Series)), api.ErrKind)
			stores(t, archive.New(), with(whole(), v, without(api.Series)), api.ErrValue)
		}
	}
	both := seq(api.Parts, set(el(api.Word, "LO", "é")), set(el(api.Word, "LO", "a"), el(api.Meaning, "PN", "a")))
	stores(t, archive.New(), with(whole(), both), api.ErrKind)
	stores(t, archive.New(), with(whole(), el(0, "UI", "x"), el(api.Hour, "TM", "99"), el(api.Series, "IS", "")), api.ErrKind)
}
