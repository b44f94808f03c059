package archive

import (
	"slices"

	"folio/api"
	"folio/value"
)

// demand is an element with the kind that its tag demands.
type demand struct {
	element api.Element
	kind    string
}

// checkElements goes through all elements twice: a wrong kind comes ahead of
// every wrong value, wherever they stand.
func checkElements(l []api.Element) api.Errno {
	all := demands(l)
	switch {
	case slices.ContainsFunc(all, demand.isOfOtherKind):
		return api.ErrKind
	case slices.ContainsFunc(all, demand.isNoValue):
		return api.ErrValue
	}
	return api.OK
}

// demands leaves out the elements that are of no use: nothing is asked of
// them.
func demands(l []api.Element) []demand {
	var all []demand
	for _, x := range l {
		if kind := kindOf(x.Tag); kind != "" {
			all = append(all, demand{x, kind})
		}
		if x.Tag == api.Parts {
			all = append(all, demandsInParts(x.Items)...)
		}
	}
	return all
}

func demandsInParts(items []api.Item) []demand {
	var all []demand
	for _, item := range items {
		for _, x := range wordsOf(item.Elements) {
			all = append(all, demand{x, api.Text})
		}
	}
	return all
}

func (d demand) isOfOtherKind() bool { return d.element.Kind != d.kind }

// isNoValue: Parts has items instead, and those have their own demands.
func (d demand) isNoValue() bool {
	return d.kind != api.Items && value.Check(d.kind, d.element.Value) != api.OK
}

// checkPlace tells whether a picture has its names, and whether it can stand
// beside the others. The one that it replaces is none of these.
func (a *Archive) checkPlace(d description) api.Errno {
	switch {
	case !d.hasNames():
		return api.ErrUnique
	case a.isElsewhere(d):
		return api.ErrPlace
	case a.isFullFor(d):
		return api.ErrFull
	}
	return api.OK
}

func (a *Archive) isElsewhere(d description) bool {
	for name, other := range a.pictures {
		if name != d.value(api.Picture) && (d.splits(other.description, api.Series, api.Study) || d.splits(other.description, api.Study, api.Identity)) {
			return true
		}
	}
	return false
}

func (a *Archive) isFullFor(d description) bool {
	_, there := a.pictures[d.value(api.Picture)]
	return !there && len(a.pictures) >= api.MaxPictures
}
