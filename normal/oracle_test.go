package normal_test

import (
	"slices"
	"strings"
	"testing"

	"canary/api"
	"canary/normal"
)

// The oracle says what the functions return as the document says it: it looks for the
// least name that is left, again and again, and calls no other layer.

// ofOneHop are the names of the fields of one hop, as the document lists them.
var ofOneHop = strings.Split("Connection, Keep-Alive, Proxy-Connection, TE, Trailer, Transfer-Encoding, Upgrade, Expect, Content-Length", ", ")

// lower is strings.ToLower for the letters A to Z only.
func lower(s string) string {
	const upper, small = "ABCDEFGHIJKLMNOPQRSTUVWXYZ", "abcdefghijklmnopqrstuvwxyz"
	var b []byte
	for i := range len(s) {
		c := s[i]
		if at := strings.IndexByte(upper, c); at >= 0 {
			c = small[at]
		}
		b = append(b, c)
	}
	return string(b)
}

// among reports whether the name is one of the names, without regard to case.
func among(name string, names []string) bool {
	return slices.ContainsFunc(names, func(n string) bool { return lower(n) == lower(name) })
}

// isNamed reports whether an element of a field Connection is this name.
func isNamed(l []api.Field, name string) bool {
	for _, f := range l {
		if lower(f.Name) != "connection" {
			continue
		}
		for _, part := range strings.Split(f.Value, ",") {
			if element := strings.Trim(part, " \t"); element != "" && lower(element) == lower(name) {
				return true
			}
		}
	}
	return false
}

// isLeft reports whether a field of this name, one of l, is to be compared.
func isLeft(l []api.Field, name string, ignore []string) bool {
	if among(name, ofOneHop) || among(name, []string{"Via", "Date"}) || among(name, ignore) {
		return false
	}
	return among(name, []string{"Host", "Cookie"}) || !isNamed(l, name)
}

func wantFields(l []api.Field, ignore []string) []api.Field {
	var left, want []api.Field
	for _, f := range l {
		if isLeft(l, f.Name, ignore) {
			left = append(left, api.Field{Name: lower(f.Name), Value: f.Value})
		}
	}
	for len(left) > 0 {
		least := left[0].Name
		for _, f := range left {
			least = min(least, f.Name)
		}
		var others []api.Field
		value, separator := "", ""
		for _, f := range left {
			if f.Name != least {
				others = append(others, f)
				continue
			}
			value, separator = value+separator+f.Value, ", "
		}
		want = append(want, api.Field{Name: least, Value: value})
		left = others
	}
	return want
}

func wantNames(l []api.Field) []string {
	var want []string
	for _, f := range l {
		at := 0
		for at < len(want) && want[at] < f.Name {
			at++
		}
		if at == len(want) || want[at] != f.Name {
			want = slices.Insert(want, at, f.Name)
		}
	}
	return want
}

// behind is what lies behind the arguments in their memory.
const behind = "behind"

// guarded returns a copy of l with something behind it, which belongs to nobody else.
func guarded[E any](l []E, more E) (own, memory []E) {
	memory = slices.Concat(l, []E{more, more, more})
	return memory[:len(l)], memory
}

// checkMemory reports what a call changed of its argument, or behind it.
func checkMemory[E comparable](t *testing.T, l []E, more E, memory []E) {
	t.Helper()
	if !slices.Equal(memory, slices.Concat(l, []E{more, more, more})) {
		t.Fatalf("%v has been changed: %v", l, memory)
	}
}

// These compare a function with the oracle, several times, since nothing is kept from
// call to call, and since a map is ranged over in another order each time.

func checkFields(t *testing.T, l []api.Field, ignore ...string) {
	t.Helper()
	guard := api.Field{Name: behind, Value: behind}
	own, memory := guarded(l, guard)
	names, nameMemory := guarded(ignore, behind)
	want := wantFields(l, ignore)
	for range 3 {
		got := normal.Fields(own, names...)
		if !slices.Equal(got, want) {
			t.Fatalf("Fields(%q, %q) = %q, want %q", l, ignore, got, want)
		}
		overwrite(got, api.Field{Name: "overwritten"})
		checkMemory(t, l, guard, memory)
		checkMemory(t, ignore, behind, nameMemory)
	}
}

func checkNames(t *testing.T, l []api.Field) {
	t.Helper()
	guard := api.Field{Name: behind, Value: behind}
	own, memory := guarded(l, guard)
	want := wantNames(l)
	for range 2 {
		got := normal.Names(own)
		if !slices.Equal(got, want) {
			t.Fatalf("Names(%q) = %q, want %q", l, got, want)
		}
		overwrite(got, "overwritten")
		checkMemory(t, l, guard, memory)
	}
}

// overwrite changes a result, and the memory behind it that belongs to it.
func overwrite[E any](l []E, by E) {
	l = l[:cap(l)]
	for i := range l {
		l[i] = by
	}
}

// check compares both functions with the oracle.
func check(t *testing.T, l []api.Field, ignore ...string) {
	t.Helper()
	checkFields(t, l, ignore...)
	checkNames(t, l)
}
