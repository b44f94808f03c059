package archive

import (
	"slices"

	"folio/api"
	"folio/value"
)

// fits: each key is fitted (P12).
func (d description) fits(keys []api.Element) bool {
	for _, key := range keys {
		if !fitsKey(key, d[key.Tag]) {
			return false
		}
	}
	return true
}

func fitsKey(key, x api.Element) bool {
	if key.Kind == api.Items {
		return fitsParts(key.Items, x.Items)
	}
	fits, _ := value.Match(key.Kind, key.Value, x.Value)
	return fits
}

// fitsParts: of what is asked for there is one item at most.
func fitsParts(asked, items []api.Item) bool {
	return len(asked) == 0 || slices.ContainsFunc(items, func(item api.Item) bool { return fitsItem(asked[0], item) })
}

func fitsItem(asked, item api.Item) bool {
	for _, key := range asked.Elements {
		if !fitsKey(key, elementOf(item.Elements, key.Tag)) {
			return false
		}
	}
	return true
}
