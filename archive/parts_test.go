package archive_test

import (
	"slices"
	"testing"

	"folio/api"
	"folio/archive"
	"folio/dataset"
)

func word(w string) api.Element    { return el(api.Word, "LO", w) }
func meaning(m string) api.Element { return el(api.Meaning, "LO", m) }

// limbs: pictures of one series, by what their Parts are.
func limbs(t *testing.T) *archive.Archive {
	t.Helper()
	a := archive.New()
	for name, x := range map[string]api.Element{
		"1": seq(api.Parts, set(word("hand"), meaning("left")), set(word("foot"), meaning("right"))),
		"2": seq(api.Parts, set(word("hand"), meaning("right"))),
		"3": seq(api.Parts, set(word("foot"))),
		"4": seq(api.Parts, set(meaning("left"))),
		"5": seq(api.Parts, nil),
		"6": seq(api.Parts, set(word(""), meaning(""))),
		"7": seq(api.Parts),
		"8": without(api.Parts),
		"9": seq(api.Parts, nil, set(el(api.Order, "LO", "hand")), set(word("Hand"))),
	} {
		stores(t, a, with(place{"A", "1", "2", name}.elements(), x), api.OK)
	}
	return a
}

// P12: one item must fit for all that is asked of it.
func TestFindByParts(t *testing.T) {
	a := limbs(t)
	for _, c := range []struct {
		asked api.Element
		want  []string
	}{
		{seq(api.Parts), []string{"1", "2", "3", "4", "5", "6", "7", "8", "9"}},
		{seq(api.Parts, nil), []string{"1", "2", "3", "4", "5", "6", "9"}},
		{seq(api.Parts, set(word(""))), []string{"1", "2", "3", "4", "5", "6", "9"}},
		{seq(api.Parts, set(meaning(""))), []string{"1", "2", "3", "4", "5", "6", "9"}},
		{seq(api.Parts, set(word(""), meaning(""))), []string{"1", "2", "3", "4", "5", "6", "9"}},
		{seq(api.Parts, set(word("*"))), []string{"1", "2", "3", "4", "5", "6", "9"}},
		{seq(api.Parts, set(word("?*"))), []string{"1", "2", "3", "9"}},
		{seq(api.Parts, set(meaning("?*"))), []string{"1", "2", "4"}},
		{seq(api.Parts, set(word("?*"), meaning("?*"))), []string{"1", "2"}},
		{seq(api.Parts, set(word("hand"))), []string{"1", "2"}},
		{seq(api.Parts, set(word("?and"))), []string{"1", "2", "9"}},
		{seq(api.Parts, set(word("foot"))), []string{"1", "3"}},
		{seq(api.Parts, set(meaning("left"))), []string{"1", "4"}},
		{seq(api.Parts, set(word("hand"), meaning("left"))), []string{"1"}},
		{seq(api.Parts, set(word("hand"), meaning("right"))), []string{"2"}}, // not one item of this and one of that
		{seq(api.Parts, set(word("foot"), meaning(""))), []string{"1", "3"}},
		{seq(api.Parts, set(word("foot"), meaning("left"))), nil},
		{seq(api.Parts, set(word("left"))), nil},
		{seq(api.Parts, set(meaning("hand"))), nil},
		{seq(api.Parts, set(word("HAND"))), nil},
	} {
		q := query("IMAGE", []string{"A", "1", "2"}, c.asked)
		l, e := a.Find(bytes(t, with(q, key(api.Picture))))
		var got []string
		for _, s := range l {
			answer, _ := dataset.Decode(s)
			got = append(got, valueOf(answer, api.Picture))
		}
		if e != api.OK || !slices.Equal(got, c.want) {
			t.Errorf("P12: Find with %+v finds %q, %d, want %q", c.asked, got, e, c.want)
		}
	}
}

// P11: all items stand in the answer, whichever fits, with Word and Meaning
// as they are there.
func TestFindAnswersAllItems(t *testing.T) {
	a := limbs(t)
	ask := func(picture string, items ...[]api.Element) []api.Element {
		return query("IMAGE", []string{"A", "1", "2"}, el(api.Picture, "UI", picture), seq(api.Parts, items...))
	}
	finds(t, a, ask("1", set(word("foot"))), ask("1", set(word("hand"), meaning("left")), set(word("foot"), meaning("right"))))
	finds(t, a, ask("1"), ask("1", set(word("hand"), meaning("left")), set(word("foot"), meaning("right"))))
	finds(t, a, ask("3", set(meaning(""))), ask("3", set(word("foot"))))
	finds(t, a, ask("5", set(meaning(""))), ask("5", nil))
	finds(t, a, ask("6", nil), ask("6", set(word(""), meaning(""))))
	finds(t, a, ask("7"), ask("7"))
	finds(t, a, ask("8"), ask("8"))
	finds(t, a, ask("7", nil))
	finds(t, a, ask("8", nil))
	finds(t, a, ask("9", set(word("H*"))), ask("9", nil, nil, set(word("Hand"))))
	eight := make([][]api.Element, api.MaxItems)
	eight[7] = set(word("last"))
	stores(t, a, with(place{"A", "1", "2", "7"}.elements(), seq(api.Parts, eight...)), api.OK)
	finds(t, a, ask("7", set(word("last"))), ask("7", eight...))
}
