// Package dataset: data sets as bytes: see DOC.md.
package dataset

import "folio/api"

// Encode writes a data set (P3).
func Encode(l []api.Element) (string, api.Errno) {
	if e := checkSet(l, 0); e != api.OK {
		return "", e
	}
	return string(appendSet(nil, l)), api.OK
}

// Decode reads a data set (P4).
func Decode(s string) ([]api.Element, api.Errno) {
	if len(s) > api.MaxBytes {
		return nil, api.ErrLong
	}
	l, e := read(s)
	if e == api.OK {
		e = checkSet(l, 0)
	}
	if e != api.OK {
		return nil, e
	}
	return l, api.OK
}
