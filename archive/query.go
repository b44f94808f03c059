package archive

import (
	"strings"

	"folio/api"
	"folio/value"
)

// noLevel is a level that a query cannot be asked on.
const noLevel = -1

func levelOf(keys []api.Element) int {
	asked := elementOf(keys, api.Level)
	for level, name := range levels {
		if asked.Kind == api.Code && asked.Value == name {
			return level
		}
	}
	return noLevel
}

// checkQuery looks at all keys ahead of the names that must be among them.
func checkQuery(keys []api.Element, level int) api.Errno {
	if level == noLevel {
		return api.ErrLevel
	}
	for _, key := range keys {
		if e := checkKey(key, level); e != api.OK {
			return e
		}
	}
	if !hasNamesAbove(keys, level) {
		return api.ErrUnique
	}
	return api.OK
}

func checkKey(key api.Element, level int) api.Errno {
	switch {
	case rowOf(key.Tag) > level:
		return api.ErrKey
	case key.Tag == api.Parts && key.Kind == api.Items:
		return checkAskedParts(key.Items)
	}
	return checkPattern(key, kindOf(key.Tag))
}

func checkAskedParts(items []api.Item) api.Errno {
	if len(items) > 1 {
		return api.ErrLong
	}
	for _, item := range items {
		for _, key := range item.Elements {
			if e := checkKeyInParts(key); e != api.OK {
				return e
			}
		}
	}
	return api.OK
}

func checkKeyInParts(key api.Element) api.Errno {
	if !isInParts(key.Tag) {
		return api.ErrKey
	}
	return checkPattern(key, api.Text)
}

// checkPattern holds the pattern against the empty value, which each kind
// has: whether that fits does not matter here.
func checkPattern(key api.Element, kind string) api.Errno {
	if key.Kind != kind {
		return api.ErrKind
	}
	_, e := value.Match(kind, key.Value, "")
	return e
}

func hasNamesAbove(keys []api.Element, level int) bool {
	for above, tag := range names {
		if above < level && !isPlain(elementOf(keys, tag)) {
			return false
		}
	}
	return true
}

// isPlain: * and ? may stand in a value, too, but ask for more than one name.
func isPlain(key api.Element) bool {
	return key.Value != "" && value.Check(key.Kind, key.Value) == api.OK && !strings.ContainsAny(key.Value, "*?")
}
