package differ_test

import (
	"bytes"
	"crypto/sha256"
	"slices"
	"testing"

	"canary/api"
	"canary/differ"
	"canary/normal"
)

// The oracle says what the functions return as the document says it: digests are those
// of the standard library, and the fields of each name are looked for one by one. It
// calls no other layer but normal, whose result is what the document names.

func wantSeen(a api.Reply, ignore []string) api.Seen {
	sum := sha256.Sum256(a.Body)
	return api.Seen{Status: a.Status, Fields: normal.Fields(a.Fields, ignore...), Size: len(a.Body), Sum: sum[:]}
}

// wantValues returns the value of the first field of this name, or nothing.
func wantValues(l []api.Field, name string) []string {
	for _, f := range l {
		if f.Name == name {
			return []string{f.Value}
		}
	}
	return nil
}

func wantDifference(a, b api.Seen) api.Difference {
	want := api.Difference{Status: a.Status != b.Status, Body: a.Size != b.Size || string(a.Sum) != string(b.Sum)}
	for _, l := range [][]api.Field{a.Fields, b.Fields} {
		for _, f := range l {
			if slices.Equal(wantValues(a.Fields, f.Name), wantValues(b.Fields, f.Name)) {
				continue
			}
			at := 0
			for at < len(want.Fields) && want.Fields[at] < f.Name {
				at++
			}
			if at == len(want.Fields) || want.Fields[at] != f.Name {
				want.Fields = slices.Insert(want.Fields, at, f.Name)
			}
		}
	}
	return want
}

// isNothing reports whether a difference is none.
func isNothing(d api.Difference) bool {
	return equal(d, api.Difference{})
}

func equal(a, b api.Difference) bool {
	return a.Status == b.Status && a.Body == b.Body && slices.Equal(a.Fields, b.Fields)
}

func equalSeen(a, b api.Seen) bool {
	return a.Status == b.Status && a.Size == b.Size && slices.Equal(a.Fields, b.Fields) && bytes.Equal(a.Sum, b.Sum)
}

// behind is what lies behind the arguments in their memory.
const behind = "behind"

var fieldBehind = api.Field{Name: behind, Value: behind}

const byteBehind = 0xa5

// guarded returns a copy of l with something behind it, which belongs to nobody else,
// and a function that reports what a call changed of it, or behind it.
func guarded[E comparable](l []E, more E) (own []E, check func(*testing.T)) {
	before := slices.Concat(l, []E{more, more, more})
	memory := slices.Clone(before)
	return memory[:len(l)], func(t *testing.T) {
		t.Helper()
		if !slices.Equal(memory, before) {
			t.Fatalf("%v has been changed: %v", before, memory)
		}
	}
}

// overwrite changes a list, and the memory behind it that belongs to it.
func overwrite[E any](l []E, by E) {
	l = l[:cap(l)]
	for i := range l {
		l[i] = by
	}
}

// guardedSeen returns a copy of s as guarded does.
func guardedSeen(s api.Seen) (own api.Seen, check func(*testing.T)) {
	fields, checkFields := guarded(s.Fields, fieldBehind)
	sum, checkSum := guarded(s.Sum, byteBehind)
	return api.Seen{Status: s.Status, Fields: fields, Size: s.Size, Sum: sum}, func(t *testing.T) {
		t.Helper()
		checkFields(t)
		checkSum(t)
	}
}

func overwriteSeen(s api.Seen) {
	overwrite(s.Fields, api.Field{Name: "overwritten"})
	overwrite(s.Sum, 0x5a)
}

// These compare a function with the oracle, several times, since nothing is kept from
// call to call, and since a map is ranged over in another order each time. A result stays
// as it is while other results, and then the arguments, are overwritten.

func checkSee(t *testing.T, a api.Reply, ignore ...string) {
	t.Helper()
	own := a
	var checkFields, checkBody func(*testing.T)
	own.Fields, checkFields = guarded(a.Fields, fieldBehind)
	own.Body, checkBody = guarded(a.Body, byteBehind)
	names, checkNames := guarded(ignore, behind)
	first, want := differ.See(own, names...), wantSeen(a, ignore)
	for range 2 {
		got := differ.See(own, names...)
		if !equalSeen(got, want) {
			t.Fatalf("See(%#v, %q) = %#v, want %#v", a, ignore, got, want)
		}
		overwriteSeen(got)
		checkFields(t)
		checkBody(t)
		checkNames(t)
	}
	overwrite(own.Fields, fieldBehind)
	overwrite(own.Body, byteBehind)
	overwrite(names, behind)
	if !equalSeen(first, want) {
		t.Fatalf("See(%#v, %q) has become %#v", a, ignore, first)
	}
}

// checkCompare compares Compare and Same with the oracle, in both orders.
func checkCompare(t *testing.T, a, b api.Seen) {
	t.Helper()
	ownA, checkA := guardedSeen(a)
	ownB, checkB := guardedSeen(b)
	first, want := differ.Compare(ownA, ownB), wantDifference(a, b)
	for _, x := range [][2]api.Seen{{ownA, ownB}, {ownB, ownA}} {
		got := differ.Compare(x[0], x[1])
		if !equal(got, want) {
			t.Fatalf("Compare(%#v, %#v) = %#v, want %#v", x[0], x[1], got, want)
		}
		if same := differ.Same(got); same != isNothing(want) {
			t.Fatalf("Same(%#v) = %v", got, same)
		}
		overwrite(got.Fields, "overwritten")
		checkA(t)
		checkB(t)
	}
	overwriteSeen(ownA)
	overwriteSeen(ownB)
	if !equal(first, want) {
		t.Fatalf("Compare(%#v, %#v) has become %#v", a, b, first)
	}
}
