package archive

import (
	"cmp"
	"iter"
	"maps"
	"slices"
	"strconv"

	"folio/api"
)

// picture is a description, and when it was laid in: a later one has a higher
// turn.
type picture struct {
	description
	turn int
}

// on leads from the names on a level to the pictures that have them.
func (a *Archive) on(level int) map[string][]picture {
	return byName(maps.Values(a.pictures), level)
}

func byName(pictures iter.Seq[picture], level int) map[string][]picture {
	named := map[string][]picture{}
	for p := range pictures {
		name := p.value(names[level])
		named[name] = append(named[name], p)
	}
	return named
}

// tell describes what has these pictures and no others (P10). It may tell
// more than its level has: a query cannot ask for that.
func (a *Archive) tell(level int, pictures []picture) description {
	d := maps.Clone(last(pictures).description)
	d.put(api.Level, levels[level])
	for above, tag := range counts {
		d.put(tag, strconv.Itoa(a.countIn(above, d.value(names[above]))))
	}
	return d
}

func last(pictures []picture) picture {
	return slices.MaxFunc(pictures, func(p, other picture) int { return cmp.Compare(p.turn, other.turn) })
}

// countIn tells how many there are one level below of what has a name.
func (a *Archive) countIn(level int, name string) int {
	return len(byName(slices.Values(a.on(level)[name]), level+1))
}
