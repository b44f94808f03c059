package archive_test

import (
	"math/rand/v2"
	"slices"
	"strconv"
	"strings"
	"testing"

	"folio/api"
	"folio/archive"
	"folio/dataset"
)

var allKinds = []string{"UI", "CS", "LO", "PN", "DA", "TM", "IS", "SQ"}

// kindOf: the tags of the document's table, and Level.
var kindOf = map[int]string{
	api.Identity: "LO", api.Patient: "PN", api.Birth: "DA", api.StudyCount: "IS",
	api.Study: "UI", api.Day: "DA", api.Hour: "TM", api.Order: "LO", api.SeriesIn: "IS",
	api.Series: "UI", api.Way: "CS", api.SeriesNo: "IS", api.PicturesIn: "IS",
	api.Picture: "UI", api.PictureNo: "IS", api.Parts: "SQ",
	api.Level: "CS",
}

// nameTags, countTags: of each level, those above first.
var (
	levelNames = [4]string{"PATIENT", "STUDY", "SERIES", "IMAGE"}
	nameTags   = [4]int{api.Identity, api.Study, api.Series, api.Picture}
	countTags  = [3]int{api.StudyCount, api.SeriesIn, api.PicturesIn}
)

// rowOf: the level in whose row of the document's table a tag stands.
var rowOf = map[int]int{
	api.Identity: 0, api.Patient: 0, api.Birth: 0, api.StudyCount: 0,
	api.Study: 1, api.Day: 1, api.Hour: 1, api.Order: 1, api.SeriesIn: 1,
	api.Series: 2, api.Way: 2, api.SeriesNo: 2, api.PicturesIn: 2,
	api.Picture: 3, api.PictureNo: 3, api.Parts: 3,
}

func el(tag int, kind, value string) api.Element {
	return api.Element{Tag: tag, Kind: kind, Value: value}
}

func set(l ...api.Element) []api.Element { return l }

func seq(tag int, sets ...[]api.Element) api.Element {
	x := api.Element{Tag: tag, Kind: "SQ"}
	for _, l := range sets {
		x.Items = append(x.Items, api.Item{Elements: l})
	}
	return x
}

// place: the names of a picture and what it belongs to: patient, study,
// series, picture.
type place [4]string

func (p place) elements() []api.Element {
	return set(el(api.Identity, "LO", p[0]), el(api.Study, "UI", p[1]), el(api.Series, "UI", p[2]), el(api.Picture, "UI", p[3]))
}

// with: the elements, and those of l instead of theirs; a kind "none" takes
// one out.
func with(all []api.Element, l ...api.Element) []api.Element {
	all = slices.Clone(all)
	for _, x := range l {
		all = slices.DeleteFunc(all, func(y api.Element) bool { return y.Tag == x.Tag })
		if x.Kind != "none" {
			all = append(all, x)
		}
	}
	return all
}

func without(tag int) api.Element { return el(tag, "none", "") }

// bytes: the elements put in order, as bytes.
func bytes(t *testing.T, l []api.Element) string {
	t.Helper()
	l = slices.Clone(l)
	slices.SortFunc(l, func(a, b api.Element) int { return a.Tag - b.Tag })
	s, e := dataset.Encode(l)
	if e != api.OK {
		t.Fatalf("Encode(%+v) = %d", l, e)
	}
	return s
}

// undecoded: bytes, and what is answered to them.
type undecoded struct {
	name, data string
	want       api.Errno
}

// undecodable: what Decode refuses, made from right bytes, and what it takes
// although nothing is in it: empty is the answer to that.
func undecodable(right string, empty api.Errno) []undecoded {
	begin := "\x00\x00\x01\x00SQ\x00\x00\xff\xff\xff\xff" + "\xfe\xff\x00\xe0\xff\xff\xff\xff"
	end := "\xfe\xff\x0d\xe0\x00\x00\x00\x00" + "\xfe\xff\xdd\xe0\x00\x00\x00\x00"
	return []undecoded{
		{"a letter", "x", api.ErrForm},
		{"a byte behind", right + "\x00", api.ErrForm},
		{"a byte ahead", "\x00" + right, api.ErrForm},
		{"the last byte cut off", right[:len(right)-1], api.ErrForm},
		{"a tag that falls", right + right, api.ErrOrder},
		{"a kind that is none", right + "\xff\xff\xff\xffXX\x00\x00", api.ErrKind},
		{"a value that is too long", right + "\xff\xff\xff\xffLO\x42\x00" + strings.Repeat("a", 66), api.ErrLong},
		{"too many bytes", strings.Repeat("\x00", api.MaxBytes+1), api.ErrLong},
		{"3 sequences within one another", strings.Repeat(begin, 3) + strings.Repeat(end, 3), api.ErrDepth},
		{"2 sequences within one another", strings.Repeat(begin, 2) + strings.Repeat(end, 2), empty},
		{"no bytes", "", empty},
	}
}

func stores(t *testing.T, a *archive.Archive, l []api.Element, want api.Errno) {
	t.Helper()
	if e := a.Store(bytes(t, l)); e != want {
		t.Errorf("P8: Store(%+v) = %d, want %d", l, e, want)
	}
}

func lays(t *testing.T, a *archive.Archive, want api.Errno, p place) {
	t.Helper()
	stores(t, a, p.elements(), want)
}

func counts(t *testing.T, a *archive.Archive, want ...int) {
	t.Helper()
	if n := a.Count(); !slices.Equal(n[:], want) {
		t.Errorf("P9: Count = %v, want %v", n, want)
	}
}

func deletes(t *testing.T, a *archive.Archive, name string, want bool) {
	t.Helper()
	if ok := a.Delete(name); ok != want {
		t.Errorf("P9: Delete(%q) = %t, want %t", name, ok, want)
	}
}

// query: of a level, with the names of the levels above it, and more.
func query(level string, above []string, keys ...api.Element) []api.Element {
	l := set(el(api.Level, "CS", level))
	for i, name := range above {
		l = append(l, el(nameTags[i], kindOf[nameTags[i]], name))
	}
	return with(l, keys...)
}

// key: asks for whatever a tag has.
func key(tag int) api.Element { return el(tag, kindOf[tag], "") }

// finds: a query is answered with these data sets, to the byte.
func finds(t *testing.T, a *archive.Archive, q []api.Element, want ...[]api.Element) {
	t.Helper()
	var all []string
	for _, l := range want {
		all = append(all, bytes(t, l))
	}
	if got, e := a.Find(bytes(t, q)); e != api.OK || !slices.Equal(got, all) {
		t.Errorf("P10 to P12: Find(%+v) = %q, %d, want %q", q, got, e, all)
	}
}

// tells: a query, with a tag asked for beside, is answered with what it asks
// and these values of the tag.
func tells(t *testing.T, a *archive.Archive, q []api.Element, tag int, values ...string) {
	t.Helper()
	q = with(set(key(tag)), q...)
	var want [][]api.Element
	for _, v := range values {
		want = append(want, with(q, el(tag, kindOf[tag], v)))
	}
	finds(t, a, q, want...)
}

func refuses(t *testing.T, a *archive.Archive, q []api.Element, want api.Errno) {
	t.Helper()
	if got, e := a.Find(bytes(t, q)); e != want || len(got) != 0 {
		t.Errorf("P11: Find(%+v) = %q, %d, want %d", q, got, e, want)
	}
}

func valueOf(l []api.Element, tag int) string {
	for _, x := range l {
		if x.Tag == tag {
			return x.Value
		}
	}
	return ""
}

// full: an archive with as many pictures as there may be: 0 to 47, in the
// series 2 of the study 1 of the patient A.
func full(t *testing.T) *archive.Archive {
	t.Helper()
	a := archive.New()
	for i := range api.MaxPictures {
		lays(t, a, api.OK, place{"A", "1", "2", strconv.Itoa(i)})
	}
	return a
}

func pick[T any](r *rand.Rand, l ...T) T { return l[r.IntN(len(l))] }

// model tells P8 and P9 once more, by a list of places that is made anew each
// time and refused if it does not hold together.
type model []place

func (m model) without(name string) model {
	return slices.DeleteFunc(slices.Clone(m), func(p place) bool { return p[3] == name })
}

// holds: no series stands in two studies, no study has two patients.
func (m model) holds() bool {
	studyOf, patientOf := map[string]string{}, map[string]string{}
	for _, p := range m {
		studyOf[p[2]], patientOf[p[1]] = p[1], p[0]
	}
	for _, p := range m {
		if studyOf[p[2]] != p[1] || patientOf[p[1]] != p[0] {
			return false
		}
	}
	return true
}

func (m *model) store(p place) api.Errno {
	next := append(m.without(p[3]), p)
	switch {
	case slices.Contains(p[:], ""):
		return api.ErrUnique
	case !next.holds():
		return api.ErrPlace
	case len(next) > 48:
		return api.ErrFull
	}
	*m = next
	return api.OK
}

func (m *model) delete(name string) bool {
	before := len(*m)
	*m = m.without(name)
	return len(*m) < before
}

func (m model) count() (n [4]int) {
	for level := range n {
		var seen []string
		for _, p := range m {
			seen = append(seen, p[level])
		}
		slices.Sort(seen)
		n[level] = len(slices.Compact(seen))
	}
	return n
}
