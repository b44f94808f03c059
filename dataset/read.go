package dataset

import (
	"strings"

	"folio/api"
)

// read is where reading begins: what is raised further down ends here.
func read(s string) (l []api.Element, e api.Errno) {
	defer func() {
		if recover() != nil {
			l, e = nil, api.ErrForm
		}
	}()
	r := reader{s}
	return r.set(), api.OK
}

// reader cuts bytes off ahead of the rest. What has a length is read by a
// reader of its own, so that nothing in it can reach beyond that length.
type reader struct {
	rest string
}

func (r *reader) set() []api.Element {
	var l []api.Element
	for r.rest != "" {
		l = append(l, r.element(r.tag()))
	}
	return l
}

func (r *reader) setToMark() []api.Element {
	var l []api.Element
	for tag := r.tag(); tag != itemEnd; tag = r.tag() {
		l = append(l, r.element(tag))
	}
	r.zero(4)
	return l
}

func (r *reader) element(tag int) api.Element {
	need(!isReserved(tag))
	x := api.Element{Tag: tag, Kind: strings.Clone(r.take(2))}
	if x.Kind == api.Items {
		r.zero(2)
		x.Items = r.sequence()
	} else {
		x.Value = r.value(x.Kind)
	}
	return x
}

// value is a copy, as the kind is: a piece of the bytes would hold on to all
// of them for as long as the answer is kept.
func (r *reader) value(kind string) string {
	length := r.number(2)
	need(length%2 == 0)
	return strings.Clone(strings.TrimRight(r.take(length), pad(kind)))
}

func (r *reader) sequence() []api.Item {
	length := r.number(4)
	if length == noLength {
		return r.itemsToMark()
	}
	inner := reader{r.take(length)}
	return inner.items()
}

func (r *reader) items() []api.Item {
	var items []api.Item
	for r.rest != "" {
		items = append(items, r.item(r.tag()))
	}
	return items
}

func (r *reader) itemsToMark() []api.Item {
	var items []api.Item
	for tag := r.tag(); tag != itemsEnd; tag = r.tag() {
		items = append(items, r.item(tag))
	}
	r.zero(4)
	return items
}

func (r *reader) item(tag int) api.Item {
	need(tag == itemTag)
	length := r.number(4)
	if length == noLength {
		return api.Item{Elements: r.setToMark()}
	}
	inner := reader{r.take(length)}
	return api.Item{Elements: inner.set()}
}

func (r *reader) tag() int {
	upper := r.number(2)
	return upper<<16 | r.number(2)
}

func (r *reader) zero(bytes int) { need(r.number(bytes) == 0) }

func (r *reader) number(bytes int) int {
	n := 0
	for i, c := range []byte(r.take(bytes)) {
		n |= int(c) << (8 * i)
	}
	return n
}

func (r *reader) take(bytes int) string {
	need(bytes <= len(r.rest))
	taken := r.rest[:bytes]
	r.rest = r.rest[bytes:]
	return taken
}

// need raises what is wrong with bytes.
func need(right bool) {
	if !right {
		panic(api.ErrForm)
	}
}
