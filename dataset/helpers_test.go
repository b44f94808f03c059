package dataset_test

import (
	"encoding/hex"
	"math/rand/v2"
	"strings"
	"testing"

	"folio/api"
)

// hx: bytes written in hexadecimal, with blanks and commas where they help.
func hx(t *testing.T, s string) string {
	t.Helper()
	b, err := hex.DecodeString(strings.NewReplacer(" ", "", ",", "").Replace(s))
	if err != nil {
		t.Fatal(err)
	}
	return string(b)
}

func set(l ...api.Element) []api.Element { return l }

func el(tag int, kind, value string) api.Element {
	return api.Element{Tag: tag, Kind: kind, Value: value}
}

func seq(tag int, sets ...[]api.Element) api.Element {
	x := api.Element{Tag: tag, Kind: api.Items}
	for _, l := range sets {
		x.Items = append(x.Items, api.Item{Elements: l})
	}
	return x
}

// elements: n elements that nothing is wrong with.
func elements(n int) []api.Element {
	var l []api.Element
	for i := range n {
		l = append(l, el(i+1, api.Text, "a"))
	}
	return l
}

// items: n data sets without elements.
func items(n int) [][]api.Element { return make([][]api.Element, n) }

// same: a list that has nothing in it may be nil or not.
func same(a, b []api.Element) bool {
	if len(a) != len(b) {
		return false
	}
	for i, x := range a {
		y := b[i]
		if x.Tag != y.Tag || x.Kind != y.Kind || x.Value != y.Value || len(x.Items) != len(y.Items) {
			return false
		}
		for k := range x.Items {
			if !same(x.Items[k].Elements, y.Items[k].Elements) {
				return false
			}
		}
	}
	return true
}

// deepCopy: with no memory in common.
func deepCopy(l []api.Element) []api.Element {
	var c []api.Element
	for _, x := range l {
		var i []api.Item
		for _, item := range x.Items {
			i = append(i, api.Item{Elements: deepCopy(item.Elements)})
		}
		x.Items = i
		c = append(c, x)
	}
	return c
}

func two(n int) string { return string([]byte{byte(n), byte(n >> 8)}) }

func four(n int) string { return two(n) + two(n>>16) }

func tagBytes(tag int) string { return two(tag>>16) + two(tag) }

const (
	endOfItem     = "\xfe\xff\x0d\xe0\x00\x00\x00\x00"
	endOfSequence = "\xfe\xff\xdd\xe0\x00\x00\x00\x00"
)

// written: a data set as bytes, one of the many ways it may be written;
// nothing is asked of its tags, kinds and sizes.
func written(r *rand.Rand, l []api.Element) string {
	s := ""
	for _, x := range l {
		s += tagBytes(x.Tag) + x.Kind
		if x.Kind != api.Items {
			v := x.Value
			for len(v)%2 != 0 || r.IntN(3) == 0 {
				v += padOf(x.Kind)
			}
			s += two(len(v)) + v
			continue
		}
		inner := ""
		for _, item := range x.Items {
			inner += tagBytes(0xfffee000) + measured(r, written(r, item.Elements), endOfItem)
		}
		s += two(0) + measured(r, inner, endOfSequence)
	}
	return s
}

func measured(r *rand.Rand, inner, mark string) string {
	if r.IntN(2) == 0 {
		return "\xff\xff\xff\xff" + inner + mark
	}
	return four(len(inner)) + inner
}

func padOf(kind string) string {
	if kind == "UI" {
		return "\x00"
	}
	return " "
}

func pick[T any](r *rand.Rand, l ...T) T { return l[r.IntN(len(l))] }

// anySet: most are right, some have what Encode refuses; none has a value
// that ends with a pad or a tag of items and marks, so that bytes can tell it.
func anySet(r *rand.Rand, depth int) []api.Element {
	var l []api.Element
	tag := r.IntN(9)
	for range r.IntN(5) {
		x := el(tag, pick(r, "UI", "CS", "LO", "PN", "DA", "TM", "IS", "SQ", "SQ", "SQ"), "")
		switch {
		case r.IntN(60) == 0:
			x.Kind = pick(r, "XX", "sq", "\x00\x00", "\xff\xff")
		case x.Kind == "SQ" && depth < 4:
			for range r.IntN(3) {
				x.Items = append(x.Items, api.Item{Elements: anySet(r, depth+1+r.IntN(2))})
			}
		}
		if x.Kind != "SQ" {
			x.Value = pick(r, "", "a", "1.2", "A B", " a", "\x00b", "\xfe\xff\x0d\xe0", strings.Repeat("a", 62+r.IntN(3)))
		}
		l = append(l, x)
		tag += pick(r, 1, 1, 2, 1<<16, 1<<20, 9, 9, 9, 9, 9, 9, r.IntN(2))
	}
	return l
}

// reference: the grammar of the document once more, by lengths and answers
// instead of panics. A mark is what ends a data set or sequence; where it is
// empty, the bytes' end does.
type reference struct {
	s  string
	ok bool
}

func (p *reference) cut(n int) string {
	if n > len(p.s) {
		p.ok, p.s = false, ""
		return strings.Repeat("\x00", min(n, 8))
	}
	c := p.s[:n]
	p.s = p.s[n:]
	return c
}

func (p *reference) number(n int) int {
	c, v := p.cut(n), 0
	for i := n - 1; i >= 0; i-- {
		v = v*256 + int(c[i])
	}
	return v
}

func (p *reference) tag() int { return p.number(2)*65536 + p.number(2) }

// over: is this the end? It is passed, if it is a mark.
func (p *reference) over(mark string) bool {
	if !p.ok || mark == "" {
		return !p.ok || p.s == ""
	}
	if strings.HasPrefix(p.s, mark) {
		p.s = p.s[len(mark):]
		return true
	}
	return false
}

func (p *reference) set(mark string) (l []api.Element) {
	for !p.over(mark) {
		x := api.Element{Tag: p.tag(), Kind: p.cut(2)}
		p.ok = p.ok && (x.Tag < 0xfffe0000 || x.Tag > 0xfffeffff)
		if x.Kind == "SQ" {
			p.ok = p.number(2) == 0 && p.ok
			p.within(endOfSequence, func(q *reference, mark string) { x.Items = q.items(mark) })
		} else {
			n := p.number(2)
			p.ok = p.ok && n%2 == 0
			x.Value = p.cut(n)
			for strings.HasSuffix(x.Value, padOf(x.Kind)) {
				x.Value = x.Value[:len(x.Value)-1]
			}
		}
		l = append(l, x)
	}
	return l
}

func (p *reference) items(mark string) (l []api.Item) {
	for !p.over(mark) {
		p.ok = p.tag() == 0xfffee000 && p.ok
		p.within(endOfItem, func(q *reference, mark string) { l = append(l, api.Item{Elements: q.set(mark)}) })
	}
	return l
}

func (p *reference) within(mark string, inner func(*reference, string)) {
	n := p.number(4)
	if !p.ok {
		return
	}
	if n == 0xffffffff {
		inner(p, mark)
		return
	}
	q := &reference{p.cut(n), p.ok}
	if p.ok {
		inner(q, "")
		p.ok = q.ok
	}
}

func parsed(s string) ([]api.Element, bool) {
	p := &reference{s, true}
	l := p.set("")
	return l, p.ok
}
