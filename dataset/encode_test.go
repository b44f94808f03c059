package dataset_test

import (
	"strings"
	"testing"

	"folio/api"
	"folio/dataset"
)

func TestEncodeWrites(t *testing.T) {
	for _, c := range []struct {
		name string
		l    []api.Element
		want string
	}{
		{"nothing", nil, ""},
		{"an even value", set(el(api.Identity, "LO", "A1")), "10 00 20 00 4c 4f 02 00 41 31"},
		{"an odd name", set(el(api.Study, "UI", "1.2")), "20 00 0d 00 55 49 04 00 31 2e 32 00"},
		{"an odd number", set(el(api.SeriesNo, "IS", "7")), "20 00 11 00 49 53 02 00 37 20"},
		{"an odd code", set(el(api.Way, "CS", "CTA")), "08 00 60 00 43 53 04 00 43 54 41 20"},
		{"an odd person", set(el(api.Patient, "PN", "D")), "10 00 10 00 50 4e 02 00 44 20"},
		{"an odd day", set(el(api.Day, "DA", "2")), "08 00 20 00 44 41 02 00 32 20"},
		{"an odd hour", set(el(api.Hour, "TM", "1")), "08 00 30 00 54 4d 02 00 31 20"},
		{"no value", set(el(1, "TM", "")), "00 00 01 00 54 4d 00 00"},
		{"each byte of a tag", set(el(0x12345678, "LO", "")), "34 12 78 56 4c 4f 00 00"},
		{"the least and the greatest tag", set(el(0, "LO", ""), el(api.MaxTag, "LO", "")), "00 00 00 00 4c 4f 00 00, ff ff ff ff 4c 4f 00 00"},
		{"pads that are not of the kind", set(el(1, "UI", "a "), el(2, "LO", "a\x00")), "00 00 01 00 55 49 02 00 61 20, 00 00 02 00 4c 4f 02 00 61 00"},
		{"pads ahead and within", set(el(1, "LO", "  a b"), el(2, "UI", "\x00\x00a")), "00 00 01 00 4c 4f 06 00 20 20 61 20 62 20, 00 00 02 00 55 49 04 00 00 00 61 00"},
		{"a sequence without items", set(seq(5), el(6, "LO", "")), "00 00 05 00 53 51 00 00 00 00 00 00, 00 00 06 00 4c 4f 00 00"},
		{"one item", set(seq(api.Parts, set(el(api.Word, "LO", "x")))), "08 00 18 22 53 51 00 00 12 00 00 00, fe ff 00 e0 0a 00 00 00, 08 00 00 01 4c 4f 02 00 78 20"},
		{"sequences within one another", set(seq(5, nil, set(seq(1, nil)))), "00 00 05 00 53 51 00 00 24 00 00 00, fe ff 00 e0 00 00 00 00, fe ff 00 e0 14 00 00 00, 00 00 01 00 53 51 00 00 08 00 00 00, fe ff 00 e0 00 00 00 00"},
	} {
		if s, e := dataset.Encode(c.l); s != hx(t, c.want) || e != api.OK {
			t.Errorf("P3: %s: Encode = %x, %d, want %s", c.name, s, e, c.want)
		}
	}
}

// Lengths of items and sequences need more than two bytes here.
func TestEncodeWritesLongSequences(t *testing.T) {
	wide := func(n int) (l []api.Element) {
		for i := range n {
			l = append(l, el(i, "LO", strings.Repeat("a", 64)))
		}
		return l
	}
	item := tagBytes(0xfffee000) + four(24*72)
	for i := range 24 {
		item += tagBytes(i) + "LO" + two(64) + strings.Repeat("a", 64)
	}
	inner := tagBytes(3) + "SQ" + two(0) + four(8*len(item)) + strings.Repeat(item, 8)
	outer := tagBytes(0xfffee000) + four(len(inner)) + inner
	want := tagBytes(9) + "SQ" + two(0) + four(8*len(outer)) + strings.Repeat(outer, 8)
	eight := [][]api.Element{wide(24), wide(24), wide(24), wide(24), wide(24), wide(24), wide(24), wide(24)}
	deep := set(seq(3, eight...))
	if s, e := dataset.Encode(set(seq(9, deep, deep, deep, deep, deep, deep, deep, deep))); s != want || e != api.OK {
		t.Errorf("P3: Encode = %d bytes, %d, want %d", len(s), e, len(want))
	}
}

func TestEncodeRefuses(t *testing.T) {
	long := strings.Repeat("a", api.MaxValue+1)
	for _, c := range []struct {
		name string
		l    []api.Element
		want api.Errno
	}{
		{"no kind", set(el(1, "", "")), api.ErrKind},
		{"an unknown kind", set(el(1, "XX", "")), api.ErrKind},
		{"a kind in small letters", set(el(1, "lo", "")), api.ErrKind},
		{"a kind and more", set(el(1, "LO ", "")), api.ErrKind},
		{"half a kind", set(el(1, "L", "")), api.ErrKind},
		{"two kinds", set(el(1, "LOPN", "")), api.ErrKind},
		{"a tag below 0", set(el(-1, "LO", "")), api.ErrOrder},
		{"a tag far below 0", set(el(-1<<63, "LO", "")), api.ErrOrder},
		{"a tag above all", set(el(api.MaxTag+1, "LO", "")), api.ErrOrder},
		{"a tag far above all", set(el(1<<63-1, "LO", "")), api.ErrOrder},
		{"a tag that is right in its lower 32 bits", set(el(1<<32+5, "LO", "")), api.ErrOrder},
		{"ahead of the tags of marks", set(el(0xfffdffff, "LO", "")), api.OK},
		{"the first tag of marks", set(el(0xfffe0000, "LO", "")), api.ErrOrder},
		{"the tag of items", set(el(0xfffee000, "SQ", "")), api.ErrOrder},
		{"the mark of items", set(el(0xfffee00d, "LO", "")), api.ErrOrder},
		{"the mark of sequences", set(el(0xfffee0dd, "LO", "")), api.ErrOrder},
		{"the last tag of marks", set(el(0xfffeffff, "LO", "")), api.ErrOrder},
		{"behind the tags of marks", set(el(0xffff0000, "LO", "")), api.OK},
		{"the greatest tag", set(el(api.MaxTag, "LO", "")), api.OK},
		{"a tag twice", set(el(5, "LO", ""), el(5, "LO", "")), api.ErrOrder},
		{"a tag that falls", set(el(5, "LO", ""), el(4, "LO", "")), api.ErrOrder},
		{"a tag that falls by one behind another", set(el(3, "LO", ""), el(7, "LO", ""), el(6, "LO", "")), api.ErrOrder},
		{"a tag that falls in an item", set(seq(5, set(el(5, "LO", ""), el(4, "LO", "")))), api.ErrOrder},
		{"tags of an item below that of its sequence", set(seq(5, set(el(1, "LO", "")), set(el(1, "LO", ""))), el(6, "LO", "")), api.OK},
		{"a value of 64 bytes", set(el(5, "LO", long[:api.MaxValue])), api.OK},
		{"a value of 65 bytes", set(el(5, "LO", long)), api.ErrLong},
		{"a value of 65 bytes in a sequence", set(el(5, "SQ", long)), api.ErrLong},
		{"a value with a pad at its end", set(el(5, "LO", "a ")), api.ErrLong},
		{"a value of a pad", set(el(5, "DA", " ")), api.ErrLong},
		{"a name with a pad at its end", set(el(5, "UI", "1.2\x00")), api.ErrLong},
		{"a name with a blank at its end", set(el(5, "UI", "1.2 ")), api.OK},
		{"a text with a zero at its end", set(el(5, "LO", "1.2\x00")), api.OK},
		{"a sequence with a value", set(el(5, "SQ", "a")), api.ErrForm},
		{"a sequence with a pad as its value", set(el(5, "SQ", " ")), api.ErrLong},
		{"a sequence with a zero as its value", set(el(5, "SQ", "\x00")), api.ErrForm},
		{"a text with an item", set(api.Element{Tag: 5, Kind: "LO", Items: []api.Item{{}}}), api.ErrForm},
		{"a text with nine items", set(api.Element{Tag: 5, Kind: "LO", Items: make([]api.Item, 9)}), api.ErrForm},
		{"a text with an empty list of items", set(api.Element{Tag: 5, Kind: "LO", Items: []api.Item{}}), api.OK},
		{"8 items", set(seq(5, items(api.MaxItems)...)), api.OK},
		{"9 items", set(seq(5, items(api.MaxItems+1)...)), api.ErrLong},
		{"2 sequences within one another", set(seq(1, set(seq(1, set(el(1, "LO", "")))))), api.OK},
		{"3 sequences within one another", set(seq(1, set(seq(1, set(seq(1)))))), api.ErrDepth},
		{"24 elements", elements(api.MaxElements), api.OK},
		{"25 elements", elements(api.MaxElements + 1), api.ErrLong},
		{"24 elements in an item", set(seq(5, elements(api.MaxElements))), api.OK},
		{"25 elements in an item", set(seq(5, elements(api.MaxElements+1))), api.ErrLong},
		{"25 elements in an item of an item", set(seq(5, set(seq(5, nil, elements(api.MaxElements+1))))), api.ErrLong},
	} {
		if s, e := dataset.Encode(c.l); e != c.want || (s == "") != (e != api.OK) {
			t.Errorf("P3: %s: Encode = %x, %d, want %d", c.name, s, e, c.want)
		}
	}
}

// faulty: an element of the tag 5 that has each of the faults of P3 of which
// the bit is set, in their order there.
func faulty(faults int) api.Element {
	x := seq(5, nil)
	if faults&1 != 0 {
		x.Kind = "XX"
	}
	if faults&2 != 0 {
		x.Tag = 1
	}
	if faults&8 != 0 {
		x.Value = "a"
	}
	if faults&4 != 0 {
		x.Value = strings.Repeat("a", api.MaxValue+1)
	}
	if faults&16 != 0 {
		x.Items = make([]api.Item, api.MaxItems+1)
	}
	if faults&64 != 0 {
		x.Items[0].Elements = set(el(1, "XX", ""))
	}
	return x
}

func TestEncodeNamesTheFirstFault(t *testing.T) {
	names := []api.Errno{api.ErrKind, api.ErrOrder, api.ErrLong, api.ErrForm, api.ErrLong, api.ErrDepth, api.ErrKind}
	for faults := range 1 << len(names) {
		want := api.OK
		for i := len(names) - 1; i >= 0; i-- {
			if faults>>i&1 != 0 {
				want = names[i]
			}
		}
		l := set(el(1, "LO", ""), faulty(faults), el(0, "", "later faults are not named"))
		if want == api.OK {
			l = l[:2]
		}
		l = set(seq(1, l))
		if faults&32 != 0 {
			l = set(seq(1, l))
		}
		if _, e := dataset.Encode(l); e != want {
			t.Errorf("P3: faults %07b: Encode = %d, want %d", faults, e, want)
		}
	}
}

func TestEncodeNamesTheFirstElement(t *testing.T) {
	many := elements(api.MaxElements + 1)
	bad := append(set(el(-1, "XX", "a ")), many...)
	for _, c := range []struct {
		name string
		l    []api.Element
		want api.Errno
	}{
		{"too many elements come ahead of each", bad, api.ErrLong},
		{"also in an item", set(seq(1, bad)), api.ErrLong},
		{"too many at the top come ahead of an item", append(set(seq(0, set(el(1, "XX", "")))), many...), api.ErrLong},
		{"an item's elements come ahead of the next item", set(seq(5, set(el(9, "XX", "")), many)), api.ErrKind},
		{"the items come in their order", set(seq(5, many, set(el(9, "XX", "")))), api.ErrLong},
		{"an item's elements come ahead of the next element", set(seq(5, set(el(1, "LO", "a "))), el(6, "XX", "")), api.ErrLong},
		{"the number of items comes ahead of them", set(seq(5, append(items(api.MaxItems), set(el(1, "XX", "")))...)), api.ErrLong},
		{"the depth comes ahead of items", set(seq(5, set(seq(5, set(seq(5, set(el(1, "XX", ""))))))), el(6, "LO", "a ")), api.ErrDepth},
		{"the kind of a later element comes behind", set(el(5, "LO", "a "), el(6, "XX", "")), api.ErrLong},
	} {
		if s, e := dataset.Encode(c.l); e != c.want || s != "" {
			t.Errorf("P3: %s: Encode = %x, %d, want %d", c.name, s, e, c.want)
		}
	}
}
