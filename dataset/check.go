package dataset

import (
	"strings"

	"folio/api"
)

// checkSet answers the first thing that is wrong with a data set that stands
// in so many items. It comes ahead of all writing, and goes no deeper than
// MaxDepth: a list may have itself among its items.
func checkSet(l []api.Element, depth int) api.Errno {
	if len(l) > api.MaxElements {
		return api.ErrLong
	}
	before := -1
	for _, x := range l {
		if e := checkElement(x, before, depth); e != api.OK {
			return e
		}
		before = x.Tag
	}
	return api.OK
}

// checkElement keeps to the order of P3, since the first error is the answer.
func checkElement(x api.Element, before int, depth int) api.Errno {
	sequence := x.Kind == api.Items
	switch {
	case !isKind(x.Kind):
		return api.ErrKind
	case !isTag(x.Tag) || x.Tag <= before:
		return api.ErrOrder
	case len(x.Value) > api.MaxValue || strings.HasSuffix(x.Value, pad(x.Kind)):
		return api.ErrLong
	case sequence && x.Value != "" || !sequence && len(x.Items) > 0:
		return api.ErrForm
	case len(x.Items) > api.MaxItems:
		return api.ErrLong
	case sequence && depth >= api.MaxDepth:
		return api.ErrDepth
	}
	return checkItems(x.Items, depth+1)
}

func checkItems(items []api.Item, depth int) api.Errno {
	for _, item := range items {
		if e := checkSet(item.Elements, depth); e != api.OK {
			return e
		}
	}
	return api.OK
}

func isKind(kind string) bool {
	switch kind {
	case api.Name, api.Code, api.Text, api.Person, api.Date, api.Time, api.Number, api.Items:
		return true
	}
	return false
}

func isTag(tag int) bool {
	return tag >= 0 && tag <= api.MaxTag && !isReserved(tag)
}
