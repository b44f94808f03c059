package archive_test

import (
	"maps"
	"math/rand/v2"
	"slices"
	"strconv"
	"strings"
	"testing"

	"folio/api"
	"folio/archive"
	"folio/value"
)

// shelf tells P10 to P12 once more, by a list of descriptions, the one laid
// in last at the end.
type shelf [][]api.Element

func (s *shelf) delete(name string) {
	*s = slices.DeleteFunc(slices.Clone(*s), func(l []api.Element) bool { return valueOf(l, api.Picture) == name })
}

func (s *shelf) store(l []api.Element) {
	s.delete(valueOf(l, api.Picture))
	*s = append(*s, l)
}

// count: how many names there are below what d belongs to on a level.
func (s shelf) count(d []api.Element, level int) string {
	var below []string
	for _, l := range s {
		if valueOf(l, nameTags[level]) == valueOf(d, nameTags[level]) {
			below = append(below, valueOf(l, nameTags[level+1]))
		}
	}
	slices.Sort(below)
	return strconv.Itoa(len(slices.Compact(below)))
}

// has: what d has for a key.
func (s shelf) has(d []api.Element, key api.Element) api.Element {
	x := el(key.Tag, key.Kind, valueOf(d, key.Tag))
	if key.Tag == api.Level {
		x.Value = key.Value
	}
	if level := slices.Index(countTags[:], key.Tag); level >= 0 {
		x.Value = s.count(d, level)
	}
	if key.Tag == api.Parts {
		x.Items = itemsOf(d)
	}
	return x
}

func itemsOf(d []api.Element) (items []api.Item) {
	for _, x := range d {
		if x.Tag == api.Parts {
			items = slices.Clone(x.Items)
		}
	}
	for i := range items {
		items[i].Elements = slices.DeleteFunc(slices.Clone(items[i].Elements), func(x api.Element) bool {
			return x.Tag != api.Word && x.Tag != api.Meaning
		})
	}
	return items
}

func fitted(key, x api.Element) bool {
	if key.Kind != "SQ" {
		ok, _ := value.Match(key.Kind, key.Value, x.Value)
		return ok
	}
	for _, asked := range key.Items {
		return slices.ContainsFunc(x.Items, func(item api.Item) bool {
			return !slices.ContainsFunc(asked.Elements, func(part api.Element) bool {
				return !fitted(part, el(part.Tag, part.Kind, valueOf(item.Elements, part.Tag)))
			})
		})
	}
	return true
}

// answers: to a query that nothing is wrong with.
func (s shelf) answers(t *testing.T, q []api.Element) []string {
	tag := nameTags[slices.Index(levelNames[:], valueOf(q, api.Level))]
	found, all := map[string]string{}, map[string]bool{}
	for _, d := range slices.Backward(s) {
		name := valueOf(d, tag)
		var answer []api.Element
		fits := !all[name]
		all[name] = true
		for _, key := range q {
			x := s.has(d, key)
			answer = append(answer, x)
			fits = fits && fitted(key, x)
		}
		if fits {
			found[name] = bytes(t, answer)
		}
	}
	var inOrder []string
	for name := range found {
		inOrder = append(inOrder, name)
	}
	slices.Sort(inOrder)
	for i, name := range inOrder {
		inOrder[i] = found[name]
	}
	return inOrder
}

// refusal: what is wrong with a query, whose tags rise.
func refusal(q []api.Element) api.Errno {
	i := slices.IndexFunc(q, func(x api.Element) bool { return x.Tag == api.Level && x.Kind == "CS" })
	level := slices.Index(levelNames[:], valueOf(q, api.Level))
	if i < 0 || level < 0 {
		return api.ErrLevel
	}
	for _, x := range slices.Delete(slices.Clone(q), i, i+1) {
		row, there := rowOf[x.Tag]
		if !there || row > level {
			return api.ErrKey
		}
		if e := refusalOf(x, kindOf[x.Tag]); e != api.OK {
			return e
		}
	}
	for _, tag := range nameTags[:level] {
		if v := valueOf(q, tag); v == "" || strings.ContainsAny(v, `*?\`) {
			return api.ErrUnique
		}
	}
	return api.OK
}

func refusalOf(x api.Element, kind string) api.Errno {
	if x.Kind != kind {
		return api.ErrKind
	}
	if kind != "SQ" {
		_, e := value.Match(kind, x.Value, "")
		return e
	}
	if len(x.Items) > 1 {
		return api.ErrLong
	}
	for _, item := range x.Items {
		for _, y := range item.Elements {
			if y.Tag != api.Word && y.Tag != api.Meaning {
				return api.ErrKey
			}
			if e := refusalOf(y, "LO"); e != api.OK {
				return e
			}
		}
	}
	return api.OK
}

// someValues, somePatterns: few, so that they often fit.
var someValues = map[string][]string{
	"LO": {"", "a", "b", "ab", "a*"}, "PN": {"", "Doe^A", "DOE^B", "Roe"}, "CS": {"", "CT", "MR"}, "DA": {"", "20200101", "20200229", "20191231"},
	"TM": {"", "10", "1030", "103059", "09"}, "IS": {"", "1", "2", "01", "+2", "-0"},
}

var somePatterns = map[string][]string{
	"LO": {"", "*", "a", "a*", "?b", "?"}, "PN": {"", "doe*", "*b", "roe", "???"}, "CS": {"", "C*", "?R", "CT"}, "DA": {"", "20200101", "20200101-", "-20200101", "20200101-20200229"},
	"TM": {"", "10", "10-1030", "-10", "103059"}, "IS": {"", "1", "2", "3", "0"}, "UI": {"", "1", `1\2\10`, `10\3`},
}

func someParts(r *rand.Rand, most int, values []string, more ...api.Element) api.Element {
	x := seq(api.Parts)
	for range r.IntN(most + 1) {
		var l []api.Element
		for _, y := range append(set(word(pick(r, values...)), meaning(pick(r, values...))), more...) {
			if r.IntN(3) > 0 {
				l = append(l, y)
			}
		}
		x.Items = append(x.Items, api.Item{Elements: l})
	}
	return x
}

// somePicture: few names, so that many belong together; a series stands in
// the same study each time, a study has the same patient.
func somePicture(r *rand.Rand) []api.Element {
	n := r.IntN(12)
	l := place{[]string{"A", "B", "10"}[n/4], strconv.Itoa(n / 2), strconv.Itoa(n), strconv.Itoa(r.IntN(20))}.elements()
	for _, tag := range slices.Sorted(maps.Keys(kindOf)) {
		if kind := kindOf[tag]; someValues[kind] != nil && tag != api.Identity && r.IntN(3) > 0 {
			l = with(l, el(tag, kind, pick(r, someValues[kind]...)))
		}
	}
	if r.IntN(4) > 0 {
		l = with(l, someParts(r, 3, someValues["LO"], el(api.MaxTag, "LO", "a")))
	}
	return l
}

// someQuery: mostly of what is there, in p's place.
func someQuery(r *rand.Rand, p []api.Element) []api.Element {
	level := r.IntN(4)
	var above []string
	for _, tag := range nameTags[:level] {
		above = append(above, valueOf(p, tag))
	}
	q := query(levelNames[level], above)
	for _, tag := range slices.Sorted(maps.Keys(rowOf)) {
		if rowOf[tag] <= level && !slices.Contains(nameTags[:level], tag) && r.IntN(4) == 0 {
			q = with(q, el(tag, kindOf[tag], pick(r, append(somePatterns[kindOf[tag]], "")...)))
		}
	}
	if level == 3 && r.IntN(2) == 0 {
		q = with(q, someParts(r, pick(r, 1, 1, 2), somePatterns["LO"]))
	}
	for r.IntN(3) == 0 {
		q = spoilQuery(r, q)
	}
	slices.SortFunc(q, func(x, y api.Element) int { return x.Tag - y.Tag })
	return q
}

func spoilQuery(r *rand.Rand, q []api.Element) []api.Element {
	tag := pick(r, slices.Sorted(maps.Keys(kindOf))...)
	switch r.IntN(6) {
	case 0:
		return with(q, el(pick(r, tag, api.Word, 7), pick(r, allKinds...), ""))
	case 1:
		if kind := kindOf[tag]; kind != "SQ" {
			return with(q, el(tag, kind, pick(r, noPattern[kind]...)))
		}
		return with(q, seq(api.Parts, nil, nil))
	case 2:
		return with(q, without(pick(r, nameTags[:]...)))
	case 3:
		tag := pick(r, nameTags[:]...)
		return with(q, el(tag, kindOf[tag], pick(r, somePatterns[kindOf[tag]]...)))
	case 4:
		return with(q, el(api.Level, "CS", pick(r, append(levelNames[:], "", "NONE")...)))
	}
	return with(q, seq(api.Parts, set(el(pick(r, api.Order, api.Word, api.Meaning), pick(r, "LO", "CS"), pick(r, "a", `a\b`)))))
}

// P1, P2, P10 to P12: many queries, right and wrong, to several archives that
// change, held against a second telling of the promises.
func TestQueriesInAnyOrder(t *testing.T) {
	r := rand.New(rand.NewPCG(15, 16))
	seen, found := map[api.Errno]int{}, map[int]int{}
	for round := range 60 {
		archives := []*archive.Archive{archive.New(), archive.New()}
		shelves := make([]shelf, len(archives))
		for step := range 300 {
			i := r.IntN(len(archives))
			a, s := archives[i], &shelves[i]
			p := somePicture(r)
			switch r.IntN(6) {
			case 0, 1:
				stores(t, a, p, api.OK)
				s.store(p)
			case 2:
				if name := valueOf(p, api.Picture); step%3 == 0 {
					a.Delete(name)
					s.delete(name)
				}
			}
			q := someQuery(r, pick(r, append(*s, p)...))
			want, wrong := []string(nil), refusal(q)
			if wrong == api.OK {
				want = s.answers(t, q)
				found[min(len(want), 3)]++
			}
			if got, e := a.Find(bytes(t, q)); e != wrong || !slices.Equal(got, want) {
				t.Fatalf("P10 to P12: round %d, step %d: Find(%+v) = %q, %d, want %q, %d", round, step, q, got, e, want, wrong)
			}
			seen[wrong]++
		}
	}
	for _, e := range []api.Errno{api.OK, api.ErrLevel, api.ErrKey, api.ErrKind, api.ErrPattern, api.ErrLong, api.ErrUnique} {
		if seen[e] < 50 {
			t.Errorf("only %d queries were answered with %d", seen[e], e)
		}
	}
	for n := range 4 {
		if found[n] < 300 {
			t.Errorf("only %d queries found %d", found[n], n)
		}
	}
}

// P1: Find ends at any bytes.
func TestFindEndsAtAnyBytes(t *testing.T) {
	r := rand.New(rand.NewPCG(17, 18))
	a := limbs(t)
	q := bytes(t, query("IMAGE", []string{"A", "1", "2"}, key(api.Picture), el(api.Patient, "PN", "*"), seq(api.Parts, set(word("hand"), meaning("*")))))
	for range 20000 {
		data := spoilBytes(r, q)
		l, e := a.Find(data)
		if e != api.OK && len(l) != 0 {
			t.Fatalf("P1: Find(%x) = %q, %d", data, l, e)
		}
	}
	counts(t, a, 1, 1, 1, 9)
}
