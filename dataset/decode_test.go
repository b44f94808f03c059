package dataset_test

import (
	"math/rand/v2"
	"strings"
	"testing"

	"folio/api"
	"folio/dataset"
)

func TestDecodeReads(t *testing.T) {
	part := set(seq(api.Parts, set(el(api.Word, "LO", "x"))))
	for _, c := range []struct {
		name string
		s    string
		want []api.Element
	}{
		{"nothing", "", nil},
		{"an even value", "10 00 20 00 4c 4f 02 00 41 31", set(el(api.Identity, "LO", "A1"))},
		{"more pads than needed", "10 00 20 00 4c 4f 06 00 41 31 20 20 20 20", set(el(api.Identity, "LO", "A1"))},
		{"a name and its pad", "20 00 0d 00 55 49 04 00 31 2e 32 00", set(el(api.Study, "UI", "1.2"))},
		{"a name and more pads", "20 00 0d 00 55 49 08 00 31 2e 32 00 00 00 00 00", set(el(api.Study, "UI", "1.2"))},
		{"a blank is no pad of a name", "00 00 01 00 55 49 04 00 61 00 20 00", set(el(1, "UI", "a\x00 "))},
		{"a zero is no pad of a text", "00 00 01 00 4c 4f 04 00 61 20 00 20", set(el(1, "LO", "a \x00"))},
		{"nothing but pads", "00 00 01 00 43 53 04 00 20 20 20 20, 00 00 02 00 55 49 02 00 00 00", set(el(1, "CS", ""), el(2, "UI", ""))},
		{"pads ahead stay", "00 00 01 00 50 4e 04 00 20 20 61 20", set(el(1, "PN", "  a"))},
		{"a value that looks like a mark", "00 00 01 00 4c 4f 08 00 fe ff 0d e0 00 00 00 00", set(el(1, "LO", "\xfe\xff\x0d\xe0\x00\x00\x00\x00"))},
		{"the greatest tag", "ff ff ff ff 4c 4f 00 00", set(el(api.MaxTag, "LO", ""))},
		{"lengths", "08 00 18 22 53 51 00 00 12 00 00 00, fe ff 00 e0 0a 00 00 00, 08 00 00 01 4c 4f 02 00 78 20", part},
		{"marks", "08 00 18 22 53 51 00 00 ff ff ff ff, fe ff 00 e0 ff ff ff ff, 08 00 00 01 4c 4f 02 00 78 20, fe ff 0d e0 00 00 00 00, fe ff dd e0 00 00 00 00", part},
		{"a mark behind the sequence", "08 00 18 22 53 51 00 00 ff ff ff ff, fe ff 00 e0 0a 00 00 00, 08 00 00 01 4c 4f 02 00 78 20, fe ff dd e0 00 00 00 00", part},
		{"a mark behind the item", "08 00 18 22 53 51 00 00 1a 00 00 00, fe ff 00 e0 ff ff ff ff, 08 00 00 01 4c 4f 02 00 78 20, fe ff 0d e0 00 00 00 00", part},
		{"a sequence without items", "00 00 05 00 53 51 00 00 00 00 00 00", set(seq(5))},
		{"one with a mark, and an element behind it", "00 00 05 00 53 51 00 00 ff ff ff ff, fe ff dd e0 00 00 00 00, 00 00 06 00 54 4d 00 00", set(seq(5), el(6, "TM", ""))},
		{"items without elements", "00 00 05 00 53 51 00 00 18 00 00 00, fe ff 00 e0 00 00 00 00, fe ff 00 e0 ff ff ff ff, fe ff 0d e0 00 00 00 00", set(seq(5, nil, nil))},
	} {
		if l, e := dataset.Decode(hx(t, c.s)); !same(l, c.want) || e != api.OK {
			t.Errorf("P4: %s: Decode = %+v, %d, want %+v", c.name, l, e, c.want)
		}
	}
}

func TestDecodeRefusesWhatIsNoDataSet(t *testing.T) {
	for name, s := range map[string]string{
		"a byte":                               "00",
		"half a tag":                           "00 00 01",
		"a tag alone":                          "00 00 01 00",
		"half a kind":                          "00 00 01 00 4c",
		"no length":                            "00 00 01 00 4c 4f",
		"half a length":                        "00 00 01 00 4c 4f 02",
		"no value":                             "00 00 01 00 4c 4f 02 00",
		"half a value":                         "00 00 01 00 4c 4f 02 00 61",
		"a value with an odd length":           "00 00 01 00 4c 4f 01 00 61",
		"an odd length of an unknown kind":     "00 00 01 00 58 58 01 00 61",
		"an odd length ahead of an element":    "00 00 01 00 4c 4f 03 00 61 61 61, 00 00 02 00 4c 4f 00 00",
		"the greatest length":                  "00 00 01 00 4c 4f ff ff 61 61",
		"a byte behind it":                     "00 00 01 00 4c 4f 00 00 00",
		"a sequence without its zeros":         "00 00 01 00 53 51 01 00 00 00 00 00",
		"a sequence with its zeros half":       "00 00 01 00 53 51 00 01 00 00 00 00",
		"a sequence with a length of two":      "00 00 01 00 53 51 00 00",
		"a sequence with half a length":        "00 00 01 00 53 51 00 00 00 00 00",
		"a sequence longer than the bytes":     "00 00 01 00 53 51 00 00 0a 00 00 00, fe ff 00 e0 00 00 00 00",
		"a sequence as long as can be":         "00 00 01 00 53 51 00 00 fe ff ff ff, fe ff 00 e0 00 00 00 00",
		"a sequence with half an item":         "00 00 01 00 53 51 00 00 04 00 00 00, fe ff 00 e0 00 00 00 00",
		"a sequence with an odd length":        "00 00 01 00 53 51 00 00 09 00 00 00, fe ff 00 e0 00 00 00 00 00",
		"an element instead of an item":        "00 00 01 00 53 51 00 00 08 00 00 00, 00 00 01 00 4c 4f 00 00",
		"an element instead of a mark":         "00 00 01 00 53 51 00 00 ff ff ff ff, 00 00 01 00 4c 4f 00 00, fe ff dd e0 00 00 00 00",
		"an item longer than its sequence":     "00 00 01 00 53 51 00 00 08 00 00 00, fe ff 00 e0 08 00 00 00, 00 00 01 00 4c 4f 00 00",
		"an item as long as can be":            "00 00 01 00 53 51 00 00 08 00 00 00, fe ff 00 e0 fe ff ff ff",
		"an item with half an element":         "00 00 01 00 53 51 00 00 0c 00 00 00, fe ff 00 e0 04 00 00 00, 00 00 01 00",
		"a value longer than its item":         "00 00 01 00 53 51 00 00 10 00 00 00, fe ff 00 e0 08 00 00 00, 00 00 01 00 4c 4f 02 00, 61 61",
		"an item at the top":                   "fe ff 00 e0 00 00 00 00",
		"the mark of items at the top":         "fe ff 0d e0 00 00 00 00",
		"the mark of sequences at the top":     "fe ff dd e0 00 00 00 00",
		"the first tag of marks":               "fe ff 00 00 4c 4f 00 00",
		"the last tag of marks":                "fe ff ff ff 4c 4f 00 00",
		"such a tag behind an element":         "00 00 01 00 4c 4f 00 00, fe ff 34 12 4c 4f 00 00",
		"a sequence that never ends":           "00 00 01 00 53 51 00 00 ff ff ff ff",
		"an item that never ends":              "00 00 01 00 53 51 00 00 ff ff ff ff, fe ff 00 e0 ff ff ff ff",
		"a sequence that ends like an item":    "00 00 01 00 53 51 00 00 ff ff ff ff, fe ff 0d e0 00 00 00 00",
		"an item that ends like a sequence":    "00 00 01 00 53 51 00 00 ff ff ff ff, fe ff 00 e0 ff ff ff ff, fe ff dd e0 00 00 00 00",
		"ends the wrong way round":             "00 00 01 00 53 51 00 00 ff ff ff ff, fe ff 00 e0 ff ff ff ff, fe ff dd e0 00 00 00 00, fe ff 0d e0 00 00 00 00",
		"a sequence's end that is no zero":     "00 00 01 00 53 51 00 00 ff ff ff ff, fe ff dd e0 00 00 00 01",
		"an item's end that is no zero":        "00 00 01 00 53 51 00 00 ff ff ff ff, fe ff 00 e0 ff ff ff ff, fe ff 0d e0 01 00 00 00, fe ff dd e0 00 00 00 00",
		"a sequence's end cut off":             "00 00 01 00 53 51 00 00 ff ff ff ff, fe ff dd e0 00 00 00",
		"an item with a length and a mark":     "00 00 01 00 53 51 00 00 10 00 00 00, fe ff 00 e0 00 00 00 00, fe ff 0d e0 00 00 00 00",
		"an item with its mark in its length":  "00 00 01 00 53 51 00 00 10 00 00 00, fe ff 00 e0 08 00 00 00, fe ff 0d e0 00 00 00 00",
		"a sequence with a length and a mark":  "00 00 01 00 53 51 00 00 00 00 00 00, fe ff dd e0 00 00 00 00",
		"a sequence with its mark in it":       "00 00 01 00 53 51 00 00 08 00 00 00, fe ff dd e0 00 00 00 00",
		"an item that ends behind its place":   "00 00 01 00 53 51 00 00 08 00 00 00, fe ff 00 e0 ff ff ff ff, fe ff 0d e0 00 00 00 00",
		"an item in an item":                   "00 00 01 00 53 51 00 00 10 00 00 00, fe ff 00 e0 08 00 00 00, fe ff 00 e0 00 00 00 00",
		"an item's last sequence is cut by it": "00 00 01 00 53 51 00 00 ff ff ff ff, fe ff 00 e0 0c 00 00 00, 00 00 01 00 53 51 00 00 ff ff ff ff, fe ff dd e0 00 00 00 00, fe ff dd e0 00 00 00 00",
	} {
		if l, e := dataset.Decode(hx(t, s)); e != api.ErrForm || len(l) != 0 {
			t.Errorf("P4: %s: Decode = %+v, %d, want %d", name, l, e, api.ErrForm)
		}
	}
}

// nested: so many sequences within one another, each with one item, all with marks.
func nested(n int) string {
	return strings.Repeat("\x01\x00\x02\x00SQ\x00\x00\xff\xff\xff\xff\xfe\xff\x00\xe0\xff\xff\xff\xff", n) +
		strings.Repeat(endOfItem+endOfSequence, n)
}

func TestDecodeNamesTheFaultOfEncode(t *testing.T) {
	text := func(tag int) string { return tagBytes(tag) + "LO" + two(2) + "a " }
	many := strings.Repeat("\x01\x00\x02\x00LO\x00\x00", api.MaxElements+1)
	for _, c := range []struct {
		name string
		s    string
		want api.Errno
	}{
		{"an unknown kind", "\x01\x00\x02\x00XX\x02\x00a ", api.ErrKind},
		{"a kind of zeros", strings.Repeat("\x00", 8), api.ErrKind},
		{"small letters are not SQ", "\x01\x00\x02\x00sq\x00\x00", api.ErrKind},
		{"half of SQ is not SQ", "\x01\x00\x02\x00SX\x00\x00", api.ErrKind},
		{"an unknown kind ahead of its order and length", text(5) + tagBytes(4) + "XX" + two(66) + strings.Repeat("a", 66), api.ErrKind},
		{"a tag twice", text(5) + text(5), api.ErrOrder},
		{"a tag that falls in its upper half", text(0x20001) + text(0x10002), api.ErrOrder},
		{"a tag that rises in its upper half", text(0x10002) + text(0x20001), api.OK},
		{"64 bytes", tagBytes(1) + "LO" + two(64) + strings.Repeat("a", 64), api.OK},
		{"64 bytes and pads", tagBytes(1) + "LO" + two(68) + strings.Repeat("a", 64) + "    ", api.OK},
		{"65 bytes", tagBytes(1) + "LO" + two(66) + strings.Repeat("a", 65) + " ", api.ErrLong},
		{"64 bytes and pads of another kind", tagBytes(1) + "UI" + two(66) + strings.Repeat("a", 64) + "  ", api.ErrLong},
		{"25 elements, whose tags do not rise", many, api.ErrLong},
		{"8 items", tagBytes(1) + "SQ" + two(0) + four(64) + strings.Repeat(tagBytes(0xfffee000)+four(0), 8), api.OK},
		{"9 items", tagBytes(1) + "SQ" + two(0) + four(72) + strings.Repeat(tagBytes(0xfffee000)+four(0), 9), api.ErrLong},
		{"2 sequences within one another", nested(2), api.OK},
		{"3 sequences within one another", nested(3), api.ErrDepth},
		{"as many as there is room for", nested(455), api.ErrDepth},
		{"as many, and the end is missing", nested(455)[:455*36-8], api.ErrForm},
		{"no data set, behind what Encode refuses", many + "\x00", api.ErrForm},
		{"no data set, behind an unknown kind", tagBytes(1) + "XX" + two(0) + text(0xfffe0001), api.ErrForm},
		{"no data set, deeper than may be", nested(3) + "\x01", api.ErrForm},
		{"as many bytes as may be", tagBytes(1) + "LO" + two(api.MaxBytes-8) + strings.Repeat(" ", api.MaxBytes-8), api.OK},
		{"one byte more", tagBytes(1) + "LO" + two(api.MaxBytes-8) + strings.Repeat(" ", api.MaxBytes-7), api.ErrLong},
		{"a data set of two bytes more", tagBytes(1) + "LO" + two(api.MaxBytes-6) + strings.Repeat(" ", api.MaxBytes-6), api.ErrLong},
		{"too many bytes, no data set", strings.Repeat("\xfe", api.MaxBytes+1), api.ErrLong},
		{"as many bytes as may be, no data set", strings.Repeat("\xfe", api.MaxBytes), api.ErrForm},
	} {
		if l, e := dataset.Decode(c.s); e != c.want || e != api.OK && len(l) != 0 {
			t.Errorf("P4: %s: Decode = %+v, %d, want %d", c.name, l, e, c.want)
		}
	}
}

// Bytes that are cut off: a data set only where an element of the top ends.
func TestDecodeRefusesWhatIsCutOff(t *testing.T) {
	r := rand.New(rand.NewPCG(1, 2))
	l := set(el(1, "LO", "abc"), seq(2, set(el(1, "UI", "1.2"), seq(2, nil, set(el(7, "IS", "5")))), nil), seq(3), el(4, "CS", ""))
	for range 200 {
		ends := map[int]int{0: 0}
		s := ""
		for i := range l {
			s += written(r, l[i:i+1])
			ends[len(s)] = i + 1
		}
		for i := range len(s) + 1 {
			got, e := dataset.Decode(s[:i])
			if n, whole := ends[i]; whole && (e != api.OK || !same(got, l[:n])) || !whole && (e != api.ErrForm || len(got) != 0) {
				t.Fatalf("P4: Decode(%x) = %+v, %d", s[:i], got, e)
			}
		}
	}
}

// However a data set is written, it is read, or refused as Encode refuses it.
func TestDecodeReadsWhateverIsWritten(t *testing.T) {
	r := rand.New(rand.NewPCG(3, 4))
	seen := map[api.Errno]int{}
	for range 20000 {
		l := anySet(r, 0)
		s := written(r, l)
		if len(s) > api.MaxBytes {
			continue
		}
		_, want := dataset.Encode(l)
		seen[want]++
		got, e := dataset.Decode(s)
		if e != want || e == api.OK && !same(got, l) || e != api.OK && len(got) != 0 {
			t.Fatalf("P4: Decode(%x) = %+v, %d, want %+v, %d", s, got, e, l, want)
		}
		if back, e := dataset.Encode(got); want == api.OK && e != api.OK {
			t.Fatalf("P4: Encode of what Decode answered: %x, %d", back, e)
		}
	}
	for _, e := range []api.Errno{api.OK, api.ErrKind, api.ErrOrder, api.ErrDepth} {
		if seen[e] < 100 {
			t.Errorf("too few data sets with the answer %d: %d", e, seen[e])
		}
	}
}

// spoiled: s with a few of its bytes changed, left out or put in.
func spoiled(r *rand.Rand, s string) string {
	for range 1 + r.IntN(3) {
		i := r.IntN(len(s) + 1)
		piece := pick(r, "\x00", "\x01", "\x02", "\x08", "\x20", "\xff", "SQ", "LO", "\xfe\xff\x00\xe0", endOfItem, endOfSequence, "\xff\xff\xff\xff")
		switch r.IntN(3) {
		case 0:
			s = s[:i] + piece + s[i:]
		case 1:
			s = s[:i] + piece + s[min(len(s), i+len(piece)):]
		case 2:
			s = s[:i] + s[min(len(s), i+1+r.IntN(8)):]
		}
	}
	return s
}

func TestDecodeOfSpoiledBytes(t *testing.T) {
	r := rand.New(rand.NewPCG(5, 6))
	right := 0
	for range 100000 {
		s := spoiled(r, written(r, anySet(r, 0)))
		if len(s) > api.MaxBytes {
			continue
		}
		l, ok := parsed(s)
		want := api.ErrForm
		if ok {
			_, want = dataset.Encode(l)
			right++
		}
		got, e := dataset.Decode(s)
		if e != want || e == api.OK && !same(got, l) || e != api.OK && len(got) != 0 {
			t.Fatalf("P4: Decode(%x) = %+v, %d, want %+v, %d", s, got, e, l, want)
		}
	}
	if right < 1000 {
		t.Errorf("too few data sets among the spoiled bytes: %d", right)
	}
}
