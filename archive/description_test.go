package archive

import (
	"reflect"
	"testing"

	"folio/api"
	"folio/dataset"
)

// P11: a query leaves what is kept as it is, although its answers have more.
func TestFindKeepsNothing(t *testing.T) {
	a, b := New(), New()
	l := []api.Element{{Tag: api.Level, Kind: api.Code, Value: "PATIENT"}, {Tag: api.StudyCount, Kind: api.Number}}
	query, _ := dataset.Encode(l)
	for _, x := range []*Archive{a, b} {
		data, _ := dataset.Encode([]api.Element{
			{Tag: api.Picture, Kind: api.Name, Value: "1"}, {Tag: api.Identity, Kind: api.Text, Value: "A"},
			{Tag: api.Study, Kind: api.Name, Value: "1"}, {Tag: api.Series, Kind: api.Name, Value: "1"},
		})
		if e := x.Store(data); e != api.OK {
			t.Fatalf("P8: Store = %d", e)
		}
	}
	if l, e := a.Find(query); e != api.OK || len(l) != 1 || !reflect.DeepEqual(a, b) {
		t.Errorf("P11: Find = %q, %d, and the archive is %+v, want %+v", l, e, a, b)
	}
}

// P8: elements with other tags are of no use, so are Level and the counts.
func TestDescribeKeepsWhatIsOfUse(t *testing.T) {
	element := func(tag int, value string) api.Element { return api.Element{Tag: tag, Kind: api.Text, Value: value} }
	word, meaning := element(api.Word, "a"), element(api.Meaning, "b")
	parts := api.Element{Tag: api.Parts, Kind: api.Items, Items: []api.Item{
		{Elements: []api.Element{element(api.Order, "x"), word, element(0x00080102, "x"), meaning, element(api.Identity, "x")}},
		{Elements: []api.Element{element(api.Level, "x")}},
		{Elements: []api.Element{meaning}},
		{},
	}}
	given := []api.Element{parts, word, meaning, element(0, "x"), element(api.MaxTag, "x")}
	want := description{api.Parts: api.Element{Tag: api.Parts, Kind: api.Items, Items: []api.Item{
		{Elements: []api.Element{word, meaning}}, {}, {Elements: []api.Element{meaning}}, {},
	}}}
	for _, tag := range []int{api.Level, api.StudyCount, api.SeriesIn, api.PicturesIn} {
		given = append(given, element(tag, "1"))
	}
	for _, tag := range []int{
		api.Identity, api.Patient, api.Birth, api.Study, api.Day, api.Hour, api.Order,
		api.Series, api.Way, api.SeriesNo, api.Picture, api.PictureNo,
	} {
		given = append(given, element(tag, "1"))
		want[tag] = element(tag, "1")
	}
	if d := describe(given); !reflect.DeepEqual(d, want) {
		t.Errorf("P8: describe = %+v, want %+v", d, want)
	}
}
