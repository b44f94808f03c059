package archive

import (
	"maps"
	"slices"

	"folio/api"
	"folio/dataset"
)

// answers puts what it found in order at the end: a map has none.
func (a *Archive) answers(keys []api.Element, level int) []string {
	found := map[string]description{}
	for name, pictures := range a.on(level) {
		if d := a.tell(level, pictures); d.fits(keys) {
			found[name] = d
		}
	}
	var all []string
	for _, name := range slices.Sorted(maps.Keys(found)) {
		all = append(all, found[name].answer(keys))
	}
	return all
}

// answer has no error to tell: the keys were decoded, and so was what a
// description has.
func (d description) answer(keys []api.Element) string {
	var l []api.Element
	for _, key := range keys {
		x := d[key.Tag]
		l = append(l, api.Element{Tag: key.Tag, Kind: key.Kind, Value: x.Value, Items: x.Items})
	}
	s, _ := dataset.Encode(l)
	return s
}
