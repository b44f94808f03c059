package dataset

import "folio/api"

// What reading and writing have to agree on.
const (
	reserved = 0xfffe     // the upper half of tags that no element has
	itemTag  = 0xfffee000 // ahead of an item
	itemEnd  = 0xfffee00d // the mark behind an item without a length
	itemsEnd = 0xfffee0dd // the mark behind a sequence without a length
	noLength = 0xffffffff // instead of a length: what it is of ends with a mark
)

// pad is that of letters that are no kind, too: such bytes can be read.
func pad(kind string) string {
	if kind == api.Name {
		return "\x00"
	}
	return " "
}

func isReserved(tag int) bool { return tag>>16 == reserved }
