package dataset

import "folio/api"

// appendSet takes a data set that checkSet has found to be right: its values
// and items are few and short enough for every length to have room.
func appendSet(b []byte, l []api.Element) []byte {
	for _, x := range l {
		b = appendTag(b, x.Tag)
		b = append(b, x.Kind...)
		if x.Kind == api.Items {
			b = appendTwo(b, 0)
			b = appendLong(b, appendItems(nil, x.Items))
		} else {
			b = appendValue(b, x.Kind, x.Value)
		}
	}
	return b
}

func appendItems(b []byte, items []api.Item) []byte {
	for _, item := range items {
		b = appendTag(b, itemTag)
		b = appendLong(b, appendSet(nil, item.Elements))
	}
	return b
}

func appendValue(b []byte, kind string, value string) []byte {
	if len(value)%2 != 0 {
		value += pad(kind)
	}
	b = appendTwo(b, len(value))
	return append(b, value...)
}

// appendLong sets the length of inner, in four bytes, ahead of it.
func appendLong(b []byte, inner []byte) []byte {
	b = appendTwo(b, len(inner))
	b = appendTwo(b, len(inner)>>16)
	return append(b, inner...)
}

func appendTag(b []byte, tag int) []byte {
	b = appendTwo(b, tag>>16)
	return appendTwo(b, tag)
}

// appendTwo writes the lowest two bytes of a number.
func appendTwo(b []byte, n int) []byte {
	return append(b, byte(n), byte(n>>8))
}
