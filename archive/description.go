package archive

import "folio/api"

// description is what of a picture's data set is of use, by the tags.
type description map[int]api.Element

// describe keeps nothing that no answer can be made from.
func describe(l []api.Element) description {
	d := description{}
	for _, x := range l {
		if isKept(x.Tag) {
			x.Items = parts(x.Items)
			d[x.Tag] = x
		}
	}
	return d
}

// parts keeps items that are left without elements: they are items still.
func parts(items []api.Item) []api.Item {
	var kept []api.Item
	for _, item := range items {
		kept = append(kept, api.Item{Elements: wordsOf(item.Elements)})
	}
	return kept
}

func wordsOf(l []api.Element) []api.Element {
	var words []api.Element
	for _, x := range l {
		if isInParts(x.Tag) {
			words = append(words, x)
		}
	}
	return words
}

// value is empty, too, where the element is missing.
func (d description) value(tag int) string { return d[tag].Value }

func (d description) put(tag int, value string) {
	d[tag] = api.Element{Tag: tag, Kind: kindOf(tag), Value: value}
}

// elementOf is one without a kind and a value where the tag is missing.
func elementOf(l []api.Element, tag int) api.Element {
	for _, x := range l {
		if x.Tag == tag {
			return x
		}
	}
	return api.Element{}
}

func (d description) hasNames() bool {
	for _, tag := range names {
		if d.value(tag) == "" {
			return false
		}
	}
	return true
}

// splits: both belong to the same on the level of a tag, but not above it.
func (d description) splits(other description, tag, above int) bool {
	return d.value(tag) == other.value(tag) && d.value(above) != other.value(above)
}
