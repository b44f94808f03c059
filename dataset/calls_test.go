package dataset_test

import (
	"math/rand/v2"
	"strings"
	"testing"

	"folio/api"
	"folio/dataset"
)

// P1: a list may have itself among its items.
func TestEncodeEndsWithListsWithinThemselves(t *testing.T) {
	l := set(seq(1, nil), el(2, "LO", "a"))
	l[0].Items[0].Elements = l
	if s, e := dataset.Encode(l); s != "" || e != api.ErrDepth {
		t.Errorf("P1: Encode = %x, %d, want %d", s, e, api.ErrDepth)
	}
	wide := set(seq(1, items(api.MaxItems)...), el(2, "XX", ""))
	for i := range wide[0].Items {
		wide[0].Items[i].Elements = wide[:1]
	}
	if s, e := dataset.Encode(wide); s != "" || e != api.ErrDepth {
		t.Errorf("P1: Encode = %x, %d, want %d", s, e, api.ErrDepth)
	}
}

// P1: what is far beyond the bounds is refused like what is just beyond them.
func TestEncodeEndsWithHugeLists(t *testing.T) {
	for _, l := range [][]api.Element{
		make([]api.Element, 1<<20),
		set(api.Element{Tag: 1, Kind: "SQ", Items: make([]api.Item, 1<<20)}),
		set(seq(1, make([]api.Element, 1<<20))),
		set(el(1, "LO", strings.Repeat("a", 1<<24))),
	} {
		if s, e := dataset.Encode(l); s != "" || e != api.ErrLong {
			t.Errorf("P1: Encode = %d bytes, %d, want %d", len(s), e, api.ErrLong)
		}
	}
	if l, e := dataset.Decode(strings.Repeat("\x00", 1<<24)); len(l) != 0 || e != api.ErrLong {
		t.Errorf("P1: Decode = %d elements, %d, want %d", len(l), e, api.ErrLong)
	}
}

// P1: Decode ends at all strings, deep ones too, and answers nothing with an error.
func TestDecodeEndsAtAnyBytes(t *testing.T) {
	r := rand.New(rand.NewPCG(7, 8))
	for range 20000 {
		b := make([]byte, r.IntN(200))
		for i := range b {
			b[i] = pick(r, 0, 0, 0, 1, 2, 8, 'S', 'Q', 0xfe, 0xff, 0xe0, byte(r.Uint32()))
		}
		if l, e := dataset.Decode(string(b)); e != api.OK && len(l) != 0 {
			t.Fatalf("P1: Decode(%x) = %+v, %d", b, l, e)
		}
	}
	for n := range 820 {
		for _, s := range []string{nested(n), nested(n)[:20*n], withLengths(n)} {
			if l, e := dataset.Decode(s); e != api.OK && len(l) != 0 {
				t.Fatalf("P1: Decode of %d sequences within one another = %+v, %d", n, l, e)
			}
		}
	}
}

// withLengths: so many sequences within one another, all with lengths.
func withLengths(n int) string {
	s := ""
	for i := range n {
		s += tagBytes(1) + "SQ" + two(0) + four(20*(n-i)-12) + tagBytes(0xfffee000) + four(20*(n-i)-20)
	}
	return s
}

// roomy: the same data set, each list with spare room that has something in it.
func roomy(l []api.Element) []api.Element {
	c := deepCopy(l)
	for i := range c {
		for k := range c[i].Items {
			c[i].Items[k].Elements = roomy(c[i].Items[k].Elements)
		}
		c[i].Items = append(c[i].Items, api.Item{Elements: set(el(8, "spare", "room"))})
		c[i].Items = c[i].Items[:len(c[i].Items)-1]
	}
	return append(c, el(9, "spare", "room"))[:len(c)]
}

// lists: what stands in each list within l, the spare room too.
func lists(l []api.Element) (all [][]api.Element) {
	all = append(all, l[:cap(l)])
	for _, x := range l {
		for _, item := range x.Items[:cap(x.Items)] {
			all = append(all, lists(item.Elements)...)
		}
	}
	return all
}

// P2: Encode reads only.
func TestEncodeWritesIntoNothing(t *testing.T) {
	right := set(el(1, "LO", "abc"), seq(2, set(el(1, "UI", "1.2"), seq(2, nil)), nil))
	wrong := append(deepCopy(right), el(3, "XX", ""))
	for _, l := range [][]api.Element{right, wrong} {
		given := roomy(l)
		var before [][]api.Element
		for _, x := range lists(given) {
			before = append(before, deepCopy(x))
		}
		first, e := dataset.Encode(given)
		for i, x := range lists(given) {
			if !same(x, before[i]) {
				t.Errorf("P2: Encode has changed %+v to %+v", before[i], x)
			}
		}
		if again, f := dataset.Encode(given); again != first || f != e {
			t.Errorf("P2: Encode = %x, %d, and then %x, %d", first, e, again, f)
		}
	}
}

// slots: counts how often each place of the lists within l is held, spare room too.
func slots(l []api.Element, held map[any]int) {
	for i := range l[:cap(l)] {
		held[&l[:cap(l)][i]]++
	}
	for _, x := range l {
		for i := range x.Items[:cap(x.Items)] {
			held[&x.Items[:cap(x.Items)][i]]++
		}
		for _, item := range x.Items {
			slots(item.Elements, held)
		}
	}
}

// overwrite: all lists within l.
func overwrite(l []api.Element) {
	for i := range l {
		for k := range l[i].Items {
			overwrite(l[i].Items[k].Elements)
			l[i].Items[k] = api.Item{Elements: set(el(7, "over", "written"))}
		}
		l[i] = el(7, "over", "written")
	}
}

// P2: each list of an answer is memory of its own, its spare room too.
func TestDecodeAnswersNewMemory(t *testing.T) {
	r := rand.New(rand.NewPCG(9, 10))
	inner := set(el(1, "LO", "a"), seq(2, elements(3), nil, elements(1)), el(3, "LO", "b"))
	l := set(seq(1, inner, elements(5), inner), el(2, "LO", "c"), seq(3, elements(2), inner), seq(4, nil))
	for range 50 {
		s := written(r, l)
		first, e := dataset.Decode(s)
		second, f := dataset.Decode(s)
		if e != api.OK || f != api.OK {
			t.Fatalf("P4: Decode(%x) = %d, %d", s, e, f)
		}
		held := map[any]int{}
		slots(first, held)
		slots(second, held)
		for _, n := range held {
			if n != 1 {
				t.Fatalf("P2: lists that Decode(%x) has answered share memory", s)
			}
		}
		overwrite(first)
		if third, _ := dataset.Decode(s); !same(second, l) || !same(third, l) {
			t.Fatalf("P2: writing into an answer has changed others: %+v, %+v", second, third)
		}
	}
}

// P1, P2: what was asked ahead of it does not change an answer.
func TestCallsInAnyOrder(t *testing.T) {
	l := set(seq(1, set(el(1, "LO", "x"))), el(2, "UI", "1.2"))
	want, _ := dataset.Encode(l)
	for _, spoil := range []func(){
		func() { dataset.Decode("\x00") },
		func() { dataset.Decode(nested(3)) },
		func() { dataset.Encode(set(el(1, "XX", ""))) },
		func() { dataset.Encode(nil) },
	} {
		spoil()
		if s, e := dataset.Encode(l); s != want || e != api.OK {
			t.Errorf("P1: Encode = %x, %d, want %x", s, e, want)
		}
		if got, e := dataset.Decode(want); !same(got, l) || e != api.OK {
			t.Errorf("P1: Decode = %+v, %d, want %+v", got, e, l)
		}
	}
}
