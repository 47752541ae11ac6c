package normal_test

import (
	"fmt"
	"math/rand"
	"slices"
	"strings"
	"testing"

	"canary/api"
	"canary/hop"
	"canary/normal"
)

// Each promise is checked on named cases, on every name that differs from one that
// matters in a single byte, on all lists of a few fields that matter, and on arbitrary
// fields, those that are valid and others, against an oracle that calls no other layer.

const conn = "Connection"

// left are names of fields that are compared, some of them like those that are not.
var left = []string{
	"Host", "Cookie", "X-A", "X-B", "Server", "Set-Cookie", "Content-Type", "Content-Encoding", "ETag", "Vias", "Vi", "X-Via", "Via ", " Via", "Dates", "Dat",
	"X-Date", "Last-Modified", "Expires", "Date\x00", "D\xe4te", "V\u0131a", "VIA\u017f", "Hos", "Cookie2", "Proxy-Via", "TE2", "Trailers", "Keep", "close", "",
	" ", "_", "[", "`", "{", "@", "-", "~", "0", ",", "\x00", "\n", "\x7f", "\x80", "\xc4", "\xe4", "\xff", "K", "\u212a",
}

// of makes fields of names and values.
func of(l ...string) []api.Field {
	var fields []api.Field
	for i := 0; i < len(l); i += 2 {
		fields = append(fields, api.Field{Name: l[i], Value: l[i+1]})
	}
	return fields
}

func allBytes() string {
	b := make([]byte, 256)
	for i := range b {
		b[i] = byte(i)
	}
	return string(b)
}

// edits returns the strings that differ from s in one byte that is missing,
// replaced or added, for every byte there is, and s.
func edits(s string) []string {
	all := allBytes()
	l := []string{s}
	for at := range len(s) + 1 {
		for i := range all {
			l = append(l, s[:at]+all[i:i+1]+s[at:])
			if at < len(s) {
				l = append(l, s[:at]+all[i:i+1]+s[at+1:])
			}
		}
		if at < len(s) {
			l = append(l, s[:at]+s[at+1:])
		}
	}
	return l
}

// lists returns all lists of at most n of the fields, also with one field several times.
func lists(fields []api.Field, n int) [][]api.Field {
	l := [][]api.Field{nil}
	for first := 0; n > 0; n-- {
		last := len(l)
		for _, x := range l[first:last] {
			for _, f := range fields {
				l = append(l, append(slices.Clone(x), f))
			}
		}
		first = last
	}
	return l
}

func random(r *rand.Rand, alphabet string, most int) string {
	b := make([]byte, r.Intn(most+1))
	for i := range b {
		b[i] = alphabet[r.Intn(len(alphabet))]
	}
	return string(b)
}

func pick[E any](r *rand.Rand, l ...E) E { return l[r.Intn(len(l))] }

// recased returns s with some of its letters in the other case.
func recased(r *rand.Rand, s string) string {
	b := []byte(s)
	for i, c := range b {
		if (c|32) >= 'a' && (c|32) <= 'z' && r.Intn(3) == 0 {
			b[i] ^= 32
		}
	}
	return string(b)
}

// randomName returns a name that occurs often, or an arbitrary one.
func randomName(r *rand.Rand) string {
	name := pick(r, "X-A", "X-B", "X-C", "a", "B", "_", "Via", "Date", pick(r, left...), pick(r, left...), pick(r, ofOneHop...), random(r, allBytes(), 4))
	return recased(r, name)
}

func randomField(r *rand.Rand) api.Field {
	if r.Intn(12) == 0 {
		list := random(r, " \t,", 2)
		for range r.Intn(4) {
			list += randomName(r) + pick(r, ",", ", ", " ,", ";", "")
		}
		return api.Field{Name: recased(r, conn), Value: list}
	}
	return api.Field{Name: randomName(r), Value: pick(r, "", "1", "2", "a, b", " ", random(r, allBytes(), 6))}
}

func randomFields(r *rand.Rand) []api.Field {
	l := make([]api.Field, r.Intn(14))
	for i := range l {
		l[i] = randomField(r)
	}
	return l
}

func randomIgnored(r *rand.Rand) []string {
	l := make([]string, r.Intn(4))
	for i := range l {
		l[i] = randomName(r)
	}
	return l
}

// P19.1

func TestFields(t *testing.T) {
	for _, x := range []struct {
		l      []api.Field
		ignore []string
		want   []api.Field
	}{
		{nil, nil, nil}, {[]api.Field{}, []string{}, nil}, {nil, []string{"a"}, nil},
		{of("X-B", "2", "x-a", "1", "X-B", "3"), nil, of("x-a", "1", "x-b", "2, 3")},
		{of("Server", "S"), nil, of("server", "S")}, {of("ETag", "\"aB\""), nil, of("etag", "\"aB\"")},
		{of("b", "1", "a", "2", "B", "0"), nil, of("a", "2", "b", "1, 0")},
		{of("a", "3", "A", "1", "a", "2", "A", "1"), nil, of("a", "3, 1, 2, 1")},
		{of("X-a", "1", "x-A", "2", "X-A", "3", "x-a", "4"), nil, of("x-a", "1, 2, 3, 4")},

		// Values are taken as they are, also those that are empty or lists.
		{of("a", ""), nil, of("a", "")}, {of("a", "", "A", ""), nil, of("a", ", ")}, {of("a", "", "b", "1", "a", "2", "a", ""), nil, of("a", ", 2, ", "b", "1")},
		{of("a", "1,2", "a", "3 , ", "a", "\t"), nil, of("a", "1,2, 3 , , \t")}, {of("a", "\r\n\x00\xff"), nil, of("a", "\r\n\x00\xff")},
		{of("a", "1, 2"), nil, of("a", "1, 2")}, {of("a", "AbC"), nil, of("a", "AbC")},

		// Sorted by the name in lower case, byte by byte.
		{of("B", "1", "_", "2", "a", "3"), nil, of("_", "2", "a", "3", "b", "1")},
		{of("a", "1", "", "2", "a-b", "3", "aa", "4", "a-", "5", "a0", "6", "A", "7"), nil, of("", "2", "a", "1, 7", "a-", "5", "a-b", "3", "a0", "6", "aa", "4")},
		{of("\xff", "1", "\x00", "2", "{", "3", "Z", "4", "[", "5", "`", "6", "@", "7", "0", "8"), nil, of("\x00", "2", "0", "8", "@", "7", "[", "5", "`", "6", "z", "4", "{", "3", "\xff", "1")},
		{of("x10", "1", "x9", "2", "x1", "3"), nil, of("x1", "3", "x10", "1", "x9", "2")},

		// Only A to Z have a lower case.
		{of("\xc4", "1", "\xe4", "2"), nil, of("\xc4", "1", "\xe4", "2")}, {of("K", "1", "\u212a", "2"), nil, of("k", "1", "\u212a", "2")},
		{of("\u00c4", "1", "\u00e4", "2"), nil, of("\u00c4", "1", "\u00e4", "2")}, {of("a b", "1", "A B", "2", "a  b", "3"), nil, of("a  b", "3", "a b", "1, 2")},

		// Fields of one hop.
		{of(conn, "close, X-A", "X-A", "1", "X-B", "2"), nil, of("x-b", "2")},
		{of("X-B", "2", "x-a", "1", "cONNECTION", " ,x-A\t"), nil, of("x-b", "2")},
		{of("Content-Length", "5", "Transfer-Encoding", "chunked", "TE", "a", "Keep-Alive", "b", "Trailer", "c", "Upgrade", "d", "Expect", "e", "Proxy-Connection", "f"), nil, nil},
		{of(conn, "Host, Cookie, Via", "Host", "1", "Cookie", "2", "Via", "3"), nil, of("cookie", "2", "host", "1")},
		{of(conn, "X-A", conn, "X-B", "X-A", "1", "X-B", "2", "X-C", "3"), nil, of("x-c", "3")},
		{of("Proxy-Connection", "X-A", "X-A", "1"), nil, of("x-a", "1")},

		// Via and Date.
		{of("Via", "1", "date", "2", conn, "c", "C", "3", "Content-Length", "4", "Server", "s", "Z", ""), []string{"SERVER"}, of("z", "")},
		{of("vIA", "1", "DATE", "2", "Via", "3", "Date", "4"), nil, nil}, {of("Vias", "1", "X-Date", "2", "D\u0061te ", "3"), nil, of("date ", "3", "vias", "1", "x-date", "2")},
		{of("Last-Modified", "1", "Expires", "2", "Age", "3", "Set-Cookie", "4"), nil, of("age", "3", "expires", "2", "last-modified", "1", "set-cookie", "4")},

		// What else is ignored.
		{of("X-A", "1", "x-b", "2", "X-a", "3"), []string{"x-A"}, of("x-b", "2")}, {of("a", "1", "b", "2", "c", "3"), []string{"C", "A", "c", "D"}, of("b", "2")},
		{of("", "1", "a", "2"), []string{""}, of("a", "2")}, {of("", "1", "a", "2"), []string{" "}, of("", "1", "a", "2")},
		{of("a", "1", "b", "2", "a, b", "3"), []string{"a, b"}, of("a", "1", "b", "2")}, {of("a", "1", "b", "2"), []string{"a ", "\tb"}, of("a", "1", "b", "2")},
		{of("\xc4", "1", "\xe4", "2"), []string{"\xe4"}, of("\xc4", "1")}, {of("k", "1"), []string{"\u212a"}, of("k", "1")},
		{of("Via", "1", "Date", "2", "a", "3"), []string{"Via", "date", "Connection"}, of("a", "3")},
		{of("Host", "1", "Cookie", "2"), []string{"host", "COOKIE"}, nil}, {of("ab", "1", "a", "2", "abc", "3"), []string{"ab"}, of("a", "2", "abc", "3")},
		// Connection counts even if it is ignored.
		{of(conn, "X-A", "X-A", "1", "X-B", "2"), []string{conn}, of("x-b", "2")},
	} {
		if got := normal.Fields(x.l, x.ignore...); !slices.Equal(got, x.want) {
			t.Errorf("Fields(%q, %q) = %q, want %q", x.l, x.ignore, got, x.want)
		}
		check(t, x.l, x.ignore...)
	}
}

func TestNames(t *testing.T) {
	for _, x := range []struct {
		l    []api.Field
		want []string
	}{
		{nil, nil}, {[]api.Field{}, nil}, {of("a", ""), []string{"a"}}, {of("", "a"), []string{""}},
		{of("b", "1", "a", "2", "B", "3", "a", "4"), []string{"B", "a", "b"}},
		{of("a", "1", "a", "2", "a", "3"), []string{"a"}}, {of("a", "1", "b", "2", "a", "1", "b", "2"), []string{"a", "b"}},
		{of("x-b", "1", "X-A", "2", "x-a", "3", "X-B", "4"), []string{"X-A", "X-B", "x-a", "x-b"}},
		{of("aa", "", "a-", "", "a", "", "", "", "a0", ""), []string{"", "a", "a-", "a0", "aa"}},
		{of("\xff", "1", "\x00", "2", "Z", "3", "_", "4", "a", "5", "\xc4", "6"), []string{"\x00", "Z", "_", "a", "\xc4", "\xff"}},

		// No name is left out.
		{of("Via", "1", "Date", "2", conn, "X-A", "X-A", "3", "Content-Length", "4"), []string{conn, "Content-Length", "Date", "Via", "X-A"}},
		{of(" a", "1", "a ", "2", "a, b", "3", "\n", "4"), []string{"\n", " a", "a ", "a, b"}},
	} {
		if got := normal.Names(x.l); !slices.Equal(got, x.want) {
			t.Errorf("Names(%q) = %q, want %q", x.l, got, x.want)
		}
		check(t, x.l)
	}
}

// All names that differ from one that is left out in a byte.
func TestNamesLeftOut(t *testing.T) {
	for _, name := range slices.Concat(ofOneHop, []string{"Via", "Date", "X-A"}) {
		for _, x := range edits(name) {
			check(t, of("b", "1", x, "B, 2", "B", "3"), "x-a")
		}
	}
	for _, name := range slices.Concat(ofOneHop, left, []string{"Via", "Date"}) {
		for _, other := range left {
			l := of(other, "1", strings.ToUpper(name), "2", name, "3", strings.ToLower(other), "4")
			check(t, l)
			check(t, l, other)
			check(t, l, strings.ToUpper(name), "z")
			check(t, append(l, of(conn, "close, "+other)...))
		}
	}
}

// All names to be ignored, and elements of Connection, that differ from a usual one in a byte.
func TestIgnored(t *testing.T) {
	l := of("X-A", "1", "Host", "2", "X-B", "3", "x-a", "4", "", "5", "Cookie", "6", "X-A,", "7", " ", "8")
	for _, name := range []string{"X-A", "x-b", "Host", "", "X-A,X-B"} {
		for _, x := range edits(name) {
			checkFields(t, l, x)
			checkFields(t, l, "z", x, "x-b")
			checkFields(t, of(x, "1", name, "2"), name)
			checkFields(t, of(name, "1", x, "2"), x)
			checkFields(t, append(of(conn, x), l...))
			checkFields(t, append(of(conn, x), l...), "cookie")
		}
	}
}

// Every byte in a name and in a value, and every pair of names of one byte.
func TestBytes(t *testing.T) {
	all := allBytes()
	for i := range all {
		a := all[i : i+1]
		check(t, of("x"+a, a, "X"+a, a+a), "y"+a)
		for j := range all {
			b := all[j : j+1]
			check(t, of(a, "1", b, "2"))
			checkFields(t, of("a", "1", a, "2", "z", "3"), b)
		}
	}
}

// All lists of a few fields that matter, in every order.
func TestLists(t *testing.T) {
	fields := of("X-A", "1", "x-a", "", "X-B", "2, 3", "_", "4", "Via", "5", "Connection", "x-b, host", "Host", "6", "", "7", "\xff", "8", "date", "9")
	for _, l := range lists(fields, 4) {
		check(t, l)
		checkFields(t, l, "x-A")
	}
	for _, l := range lists(fields[:4], 6) {
		check(t, l, "_")
	}
}

func TestArbitraryFields(t *testing.T) {
	r := rand.New(rand.NewSource(1))
	joined, ignored := 0, 0
	for range 40000 {
		l, ignore := randomFields(r), randomIgnored(r)
		check(t, l)
		check(t, l, ignore...)
		all, some := wantFields(l, nil), wantFields(l, ignore)
		leftOut := func(f api.Field) bool { return !isLeft(l, f.Name, nil) }
		if len(slices.DeleteFunc(slices.Clone(l), leftOut)) > len(all) {
			joined++
		}
		if len(some) > 0 && len(some) < len(all) {
			ignored++
		}
	}
	if joined < 10000 || ignored < 5000 {
		t.Errorf("only %d lists have names several times, and only in %d some are ignored", joined, ignored)
	}
}

// Many fields and many names are treated as few are.
func TestManyFields(t *testing.T) {
	const n = 200000
	different, equal, ignore := make([]api.Field, n), make([]api.Field, n), make([]string, n)
	for i := range n {
		name := fmt.Sprintf("x-%06d", n-1-i)
		different[i] = api.Field{Name: name, Value: "a"}
		equal[i] = api.Field{Name: "X", Value: "bc"}
		ignore[i] = name
	}
	got := normal.Fields(different)
	if len(got) != n || got[0].Name != "x-000000" || got[n-1].Name != "x-199999" || !slices.IsSortedFunc(got, byName) {
		t.Errorf("%d fields of different names become %d", n, len(got))
	}
	if got := normal.Fields(different, ignore[1:]...); !slices.Equal(got, different[:1]) {
		t.Errorf("without all names but one there are %d fields", len(got))
	}
	if got := normal.Fields(equal, ignore...); !slices.Equal(got, of("x", strings.Repeat("bc, ", n-1)+"bc")) {
		t.Errorf("%d fields of one name become %d", n, len(got))
	}
	if got := normal.Names(different); len(got) != n || !slices.IsSorted(got) {
		t.Errorf("%d names become %d", n, len(got))
	}
	if got := normal.Names(equal); !slices.Equal(got, []string{"X"}) {
		t.Errorf("one name becomes %d", len(got))
	}
}

func byName(a, b api.Field) int { return strings.Compare(a.Name, b.Name) }

// P19.2

// shuffled returns the fields in another order, in which those of one name keep theirs.
func shuffled(r *rand.Rand, l []api.Field) []api.Field {
	values := map[string][]api.Field{}
	for _, f := range l {
		values[lower(f.Name)] = append(values[lower(f.Name)], f)
	}
	out := make([]api.Field, len(l))
	for to, from := range r.Perm(len(l)) {
		name := lower(l[from].Name)
		out[to], values[name] = values[name][0], values[name][1:]
	}
	return out
}

// recasedFields returns the fields with some letters of their names in the other case,
// also of those that Connection names.
func recasedFields(r *rand.Rand, l []api.Field) []api.Field {
	out := slices.Clone(l)
	for i, f := range l {
		out[i].Name = recased(r, f.Name)
		if lower(f.Name) == "connection" {
			out[i].Value = recased(r, f.Value)
		}
	}
	return out
}

func TestCaseAndOrder(t *testing.T) {
	r := rand.New(rand.NewSource(2))
	changed := 0
	for range 20000 {
		l, ignore := randomFields(r), randomIgnored(r)
		other, others := shuffled(r, recasedFields(r, l)), slices.Clone(ignore)
		for i, name := range ignore {
			others[i] = recased(r, name)
		}
		if got, want := normal.Fields(other, others...), normal.Fields(l, ignore...); !slices.Equal(got, want) {
			t.Fatalf("Fields(%q, %q) = %q, but Fields(%q, %q) = %q", l, ignore, want, other, others, got)
		}
		if !slices.Equal(l, other) {
			changed++
		}
		r.Shuffle(len(others), func(i, j int) { others[i], others[j] = others[j], others[i] })
		if got, want := normal.Fields(l, append(others, others...)...), normal.Fields(l, ignore...); !slices.Equal(got, want) {
			t.Fatalf("Fields(%q, %q) = %q, but twice and in another order %q", l, ignore, want, got)
		}
	}
	if changed < 15000 {
		t.Errorf("only %d lists have been changed", changed)
	}
}

// Every order of a few fields, as long as those of one name keep theirs.
func TestEveryOrder(t *testing.T) {
	l := of("X-B", "2", "x-a", "1", "Host", "h", "Connection", "X-C", "X-C", "4", "_", "")
	want := of("_", "", "host", "h", "x-a", "1", "x-b", "2")
	orders := 0
	for _, x := range lists(l, len(l)) {
		if len(x) == len(l) && len(wantNames(x)) == len(l) {
			orders++
			if got := normal.Fields(x); !slices.Equal(got, want) {
				t.Fatalf("Fields(%q) = %q, want %q", x, got, want)
			}
		}
	}
	if orders != 720 {
		t.Errorf("there are %d orders of 6 fields", orders)
	}
}

// The order of fields with the same name is that of their values.
func TestOrderOfValues(t *testing.T) {
	for _, x := range []struct{ l, want []api.Field }{
		{of("a", "1", "A", "2"), of("a", "1, 2")}, {of("A", "2", "a", "1"), of("a", "2, 1")},
		{of("a", "1", "b", "3", "A", "2"), of("a", "1, 2", "b", "3")}, {of("A", "2", "b", "3", "a", "1"), of("a", "2, 1", "b", "3")},
	} {
		if got := normal.Fields(x.l); !slices.Equal(got, x.want) {
			t.Errorf("Fields(%q) = %q, want %q", x.l, got, x.want)
		}
	}
}

func TestFieldsOfFields(t *testing.T) {
	r := rand.New(rand.NewSource(3))
	for range 20000 {
		l, ignore := randomFields(r), randomIgnored(r)
		once := normal.Fields(l, ignore...)
		for _, again := range [][]api.Field{normal.Fields(once, ignore...), normal.Fields(once)} {
			if !slices.Equal(again, once) {
				t.Fatalf("Fields(%q, %q) = %q, but Fields of it is %q", l, ignore, once, again)
			}
		}
		if stripped := hop.Strip(once); !slices.Equal(stripped, once) {
			t.Fatalf("Fields(%q, %q) = %q has fields of one hop: %q", l, ignore, once, stripped)
		}
	}
}

// The names of normalized fields are those of the fields, in lower case and sorted.
func TestNamesOfFields(t *testing.T) {
	r := rand.New(rand.NewSource(4))
	for range 20000 {
		fields := normal.Fields(randomFields(r), randomIgnored(r)...)
		var want []string
		for _, f := range fields {
			want = append(want, lower(f.Name))
		}
		if got := normal.Names(fields); !slices.Equal(got, want) {
			t.Fatalf("Names(%q) = %q, want %q", fields, got, want)
		}
	}
}
