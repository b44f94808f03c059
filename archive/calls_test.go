package archive_test

import (
	"math/rand/v2"
	"strconv"
	"testing"

	"folio/api"
	"folio/archive"
)

// P2, P7: archives do not touch one another.
func TestArchivesStandBesideOneAnother(t *testing.T) {
	a, b := archive.New(), archive.New()
	lays(t, a, api.OK, place{"A", "1", "1.1", "1"})
	counts(t, b, 0, 0, 0, 0)
	deletes(t, b, "1", false)
	lays(t, b, api.OK, place{"B", "1", "1.1", "2"})
	lays(t, b, api.OK, place{"C", "2", "1.2", "1"})
	counts(t, a, 1, 1, 1, 1)
	counts(t, b, 2, 2, 2, 2)
	deletes(t, b, "1", true)
	counts(t, a, 1, 1, 1, 1)
	deletes(t, a, "1", true)
	counts(t, b, 1, 1, 1, 1)
	filled := full(t)
	lays(t, b, api.OK, place{"A", "3", "3", "99"})
	lays(t, filled, api.ErrFull, place{"A", "1", "2", "99"})
	counts(t, archive.New(), 0, 0, 0, 0)
}

// spoilt: the bytes of a description with something wrong in them, and what
// the promise answers of it.
func spoilt(t *testing.T, r *rand.Rand, p place) (string, api.Errno) {
	l := p.elements()
	switch r.IntN(5) {
	case 0:
		return bytes(t, l) + "\x00", api.ErrForm
	case 1:
		return bytes(t, with(l, el(api.Way, "LO", "CT"))), api.ErrKind
	case 2:
		return bytes(t, with(l, el(api.SeriesNo, "IS", "one"))), api.ErrValue
	case 3:
		x := pick(r, l...)
		return bytes(t, with(l, el(x.Tag, x.Kind, ""))), api.ErrUnique
	}
	return bytes(t, with(l, without(pick(r, l...).Tag))), api.ErrUnique
}

// anyPlace: among so few names that many of them clash, or so many pictures
// that an archive gets full.
func anyPlace(r *rand.Rand, crowded bool) place {
	if crowded {
		n := 1 + r.IntN(8)
		return place{strconv.Itoa(n % 2), strconv.Itoa(n % 4), strconv.Itoa(n), strconv.Itoa(r.IntN(70))}
	}
	return place{pick(r, "A", "B", "1"), strconv.Itoa(r.IntN(3)), strconv.Itoa(r.IntN(5)), strconv.Itoa(r.IntN(9))}
}

// P1, P2, P7 to P9: many calls, right and wrong, to several archives, held
// against a second telling of the promises.
func TestCallsInAnyOrder(t *testing.T) {
	r := rand.New(rand.NewPCG(11, 12))
	seen := map[api.Errno]int{}
	for round := range 40 {
		archives := []*archive.Archive{archive.New(), archive.New(), archive.New()}
		models := make([]model, len(archives))
		for step := range 600 {
			i := r.IntN(len(archives))
			a, m := archives[i], &models[i]
			p := anyPlace(r, round%2 == 0)
			switch r.IntN(10) {
			case 0, 1:
				if ok, want := a.Delete(p[3]), m.delete(p[3]); ok != want {
					t.Fatalf("P9: round %d, step %d: Delete(%q) = %t, want %t", round, step, p[3], ok, want)
				}
			case 2:
				data, want := spoilt(t, r, p)
				if e := a.Store(data); e != want {
					t.Fatalf("P8: round %d, step %d: Store(%x) = %d, want %d", round, step, data, e, want)
				}
			default:
				e, want := a.Store(bytes(t, p.elements())), m.store(p)
				if e != want {
					t.Fatalf("P8: round %d, step %d: Store of %q = %d, want %d", round, step, p, e, want)
				}
				seen[e]++
			}
			for k, b := range archives {
				if n, want := b.Count(), models[k].count(); n != want {
					t.Fatalf("P9: round %d, step %d: Count = %v, want %v", round, step, n, want)
				}
			}
		}
	}
	for _, e := range []api.Errno{api.OK, api.ErrPlace, api.ErrFull} {
		if seen[e] < 100 {
			t.Errorf("only %d calls were answered with %d", seen[e], e)
		}
	}
}

func spoilBytes(r *rand.Rand, s string) string {
	b := []byte(s)
	for range 1 + r.IntN(4) {
		b[r.IntN(len(b))] = pick(r, 0, 1, 2, ' ', 'S', 'Q', 0xfe, 0xff, byte(r.Uint32()))
	}
	return string(b[:pick(r, len(b), len(b), r.IntN(len(b)))])
}

// P1: Store ends at any bytes, and what it refuses changes nothing.
func TestStoreEndsAtAnyBytes(t *testing.T) {
	r := rand.New(rand.NewPCG(13, 14))
	right := bytes(t, whole())
	for range 20000 {
		a := archive.New()
		data := spoilBytes(r, right)
		want := [4]int{}
		if e := a.Store(data); e == api.OK {
			want = [4]int{1, 1, 1, 1}
		}
		if n := a.Count(); n != want {
			t.Fatalf("P1: behind Store(%x) Count = %v, want %v", data, n, want)
		}
	}
}
