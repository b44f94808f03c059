package archive_test

import (
	"strings"
	"testing"

	"folio/api"
	"folio/archive"
)

// P9: what no picture belongs to is not there.
func TestDeleteTakesOut(t *testing.T) {
	a := archive.New()
	for _, p := range []place{
		{"A", "1", "1.1", "1"}, {"A", "1", "1.1", "2"}, {"A", "1", "1.2", "3"}, {"A", "2", "2.1", "4"}, {"B", "3", "3.1", "5"},
	} {
		lays(t, a, api.OK, p)
	}
	for _, c := range []struct {
		name string
		want []int
	}{
		{"2", []int{2, 3, 4, 4}},
		{"1", []int{2, 3, 3, 3}},
		{"3", []int{2, 2, 2, 2}},
		{"5", []int{1, 1, 1, 1}},
		{"4", []int{0, 0, 0, 0}},
	} {
		deletes(t, a, c.name, true)
		counts(t, a, c.want...)
		deletes(t, a, c.name, false)
		counts(t, a, c.want...)
	}
	lays(t, a, api.OK, place{"B", "1", "3.1", "4"}) // nothing is left of what was there
	lays(t, a, api.OK, place{"C", "2", "1.1", "1"})
	counts(t, a, 2, 2, 2, 2)
}

func TestDeleteOfWhatIsNotThere(t *testing.T) {
	a := archive.New()
	deletes(t, a, "1.1.1", false)
	stores(t, a, whole(), api.OK)
	for _, name := range []string{
		"", " ", "*", "?", "1.1.*", "A", "1", "1.1", "1.1.", "1.1.1.1", "1.1.10", "1.1.1\x00", "1.1.1 ", " 1.1.1", "01.1.1", `1.1.1\1.1.2`,
		"x", "\x00", "é", strings.Repeat("1", 1<<20), bytes(t, whole()),
	} {
		deletes(t, a, name, false)
		counts(t, a, 1, 1, 1, 1)
	}
	deletes(t, a, "1.1.1", true)
}

// P9: the numbers that were told are the caller's.
func TestCountAnswersItsOwn(t *testing.T) {
	a := archive.New()
	stores(t, a, whole(), api.OK)
	n := a.Count()
	n[0], n[3] = 9, 9
	counts(t, a, 1, 1, 1, 1)
	deletes(t, a, "1.1.1", true)
	if n != [4]int{9, 1, 1, 9} {
		t.Errorf("P9: an earlier answer has become %v", n)
	}
}
