package archive

import (
	"reflect"
	"testing"

	"folio/api"
)

// P8: elements with other tags are of no use, so are Level and the counts.
func TestDescribeKeepsWhatIsOfUse(t *testing.T) {
	element := func(tag int, value string) api.Element { return api.Element{Tag: tag, Kind: api.Text, Value: value} }
	word, meaning := element(api.Word, "a"), element(api.Meaning, "b")
	parts := api.Element{Tag: api.Parts, Kind: api.Items, Items: []api.Item{
		{Elements: []api.Element{element(api.Order, "x"), word, element(0x00080102, "x"), meaning, element(api.Identity, "x")}},
		{Elements: []api.Element{element(api.Level, "x")}},
		{Elements: []api.Element{meaning}},
		{},
	}}
	given := []api.Element{parts, word, meaning, element(0, "x"), element(api.MaxTag, "x")}
	want := description{api.Parts: api.Element{Tag: api.Parts, Kind: api.Items, Items: []api.Item{
		{Elements: []api.Element{word, meaning}}, {}, {Elements: []api.Element{meaning}}, {},
	}}}
	for _, tag := range []int{api.Level, api.StudyCount, api.SeriesIn, api.PicturesIn} {
		given = append(given, element(tag, "1"))
	}
	for _, tag := range []int{
		api.Identity, api.Patient, api.Birth, api.Study, api.Day, api.Hour, api.Order,
		api.Series, api.Way, api.SeriesNo, api.Picture, api.PictureNo,
	} {
		given = append(given, element(tag, "1"))
		want[tag] = element(tag, "1")
	}
	if d := describe(given); !reflect.DeepEqual(d, want) {
		t.Errorf("P8: describe = %+v, want %+v", d, want)
	}
}
