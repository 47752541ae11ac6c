package field_test

import (
	"math/rand"
	"slices"
	"strings"
	"testing"

	"canary/api"
	"canary/field"
)

// Each promise is checked on named cases, on all short inputs of the bytes that
// matter, and on arbitrary ones, valid fields and others, against an oracle that
// is written in another way than the package and calls no other layer.

const (
	letters    = "ABCDEFGHIJKLMNOPQRSTUVWXYZabcdefghijklmnopqrstuvwxyz"
	tokenBytes = letters + "0123456789!#$%&'*+-.^_`|~"
)

// edges are the bytes at the borders of the classes, and those of which lines are made.
const edges = "\x00\x08\t\n\r\x1f !,/09:@AZ[`az{~\x7f\x80\xff"

func allBytes() string {
	b := make([]byte, 256)
	for i := range b {
		b[i] = byte(i)
	}
	return string(b)
}

// valueBytes returns the bytes that may stand in a value.
func valueBytes() string {
	all := allBytes()
	return all[9:10] + all[32:127] + all[128:]
}

func blank(c byte) bool { return c == 9 || c == 32 }

func wantTrim(s string) string {
	for len(s) > 0 && blank(s[0]) {
		s = s[1:]
	}
	for len(s) > 0 && blank(s[len(s)-1]) {
		s = s[:len(s)-1]
	}
	return s
}

// consists reports whether s has no other bytes than those of the alphabet.
func consists(s, alphabet string) bool {
	for i := range len(s) {
		if strings.IndexByte(alphabet, s[i]) < 0 {
			return false
		}
	}
	return true
}

func wantValid(f api.Field) bool {
	return f.Name != "" && consists(f.Name, tokenBytes) && consists(f.Value, valueBytes()) && wantTrim(f.Value) == f.Value
}

func wantFold(a, b string) bool {
	if len(a) != len(b) {
		return false
	}
	for i := range len(a) {
		x, y := strings.IndexByte(letters, a[i]), strings.IndexByte(letters, b[i])
		if a[i] != b[i] && (x < 0 || y < 0 || x%26 != y%26) {
			return false
		}
	}
	return true
}

func wantValues(l []api.Field, name string) []string {
	var want []string
	for _, f := range l {
		if wantFold(name, f.Name) {
			want = append(want, f.Value)
		}
	}
	return want
}

func wantElements(l []api.Field, name string) []string {
	var want []string
	for _, part := range strings.Split(strings.Join(wantValues(l, name), ","), ",") {
		if part = wantTrim(part); part != "" {
			want = append(want, part)
		}
	}
	return want
}

func wantWithout(l []api.Field, names []string) []api.Field {
	want := slices.Clone(l)
	for _, name := range names {
		want = slices.DeleteFunc(want, func(f api.Field) bool { return wantFold(f.Name, name) })
	}
	return want
}

func wantFormat(l []api.Field) string {
	var lines []string
	for _, f := range l {
		if !wantValid(f) {
			return ""
		}
		lines = append(lines, f.Name, ": ", f.Value, "\r\n")
	}
	return strings.Join(lines, "")
}

func wantParse(line string) (api.Field, api.Errno) {
	parts := strings.SplitN(line, ":", 2)
	if len(parts) < 2 {
		return api.Field{}, api.ErrSyntax
	}
	f := api.Field{Name: parts[0], Value: wantTrim(parts[1])}
	if !wantValid(f) {
		return api.Field{}, api.ErrSyntax
	}
	return f, api.OK
}

// words returns all strings of at most n bytes of the alphabet.
func words(alphabet string, n int) []string {
	l := []string{""}
	for first := 0; n > 0; n-- {
		last := len(l)
		for _, w := range l[first:last] {
			for i := range len(alphabet) {
				l = append(l, w+alphabet[i:i+1])
			}
		}
		first = last
	}
	return l
}

func random(r *rand.Rand, alphabet string, most int) string {
	b := make([]byte, r.Intn(most+1))
	for i := range b {
		b[i] = alphabet[r.Intn(len(alphabet))]
	}
	return string(b)
}

// randomValid returns a valid field.
func randomValid(r *rand.Rand) api.Field {
	name := random(r, tokenBytes, 20)
	if name == "" {
		name = "x"
	}
	return api.Field{Name: name, Value: wantTrim(random(r, valueBytes(), 40))}
}

// randomField returns a field that is valid, nearly valid, or arbitrary.
func randomField(r *rand.Rand) api.Field {
	f := randomValid(r)
	switch r.Intn(4) {
	case 0:
		f.Name += random(r, edges, 2)
	case 1:
		f.Value += random(r, edges, 2)
	case 2:
		f = api.Field{Name: random(r, allBytes(), 6), Value: random(r, allBytes(), 20)}
	}
	return f
}

// names are alike without regard to case, or differ just a little; some are no tokens.
var names = []string{"", "a", "A", "b", "ab", "aB", "AB", "a ", "a-b", "A-B", "\x80", "\xff", "k", "\u212a", "@", "`", "[", "{"}

// lists returns the same lists of fields in every run: all short ones of a few
// fields, and arbitrary ones with few names and lists of values.
func lists() [][]api.Field {
	few := []api.Field{{Name: "a", Value: "1, 2"}, {Name: "A", Value: "3,,"}, {Name: "B", Value: ""}, {Name: "b ", Value: "\x00"}}
	l := [][]api.Field{nil, {}}
	for i := range len(few) {
		l = append(l, few[i:i+1])
		for j := range len(few) {
			l = append(l, []api.Field{few[i], few[j]})
			for k := range len(few) {
				l = append(l, []api.Field{few[i], few[j], few[k]})
			}
		}
	}
	r := rand.New(rand.NewSource(1))
	for range 2000 {
		x := make([]api.Field, r.Intn(12))
		for i := range x {
			x[i] = randomField(r)
			if r.Intn(5) > 0 {
				x[i] = api.Field{Name: names[r.Intn(len(names))], Value: random(r, " \t,,,ab\xff\n", 12)}
			}
		}
		l = append(l, x)
	}
	return l
}

// randomNames returns a few names, some of them those of fields of l.
func randomNames(r *rand.Rand, l []api.Field) []string {
	var picked []string
	for range r.Intn(4) {
		picked = append(picked, names[r.Intn(len(names))])
		if len(l) > 0 && r.Intn(2) == 0 {
			picked = append(picked, l[r.Intn(len(l))].Name)
		}
	}
	return picked
}

// P6.1

func TestValid(t *testing.T) {
	for _, x := range []struct {
		name, value string
		want        bool
	}{
		{"", "", false}, {"", "a", false},
		{"a", "", true}, {"Host", "a", true}, {"Content-Length", "12", true}, {tokenBytes, "a b\tc", true},
		{"a", "b:c, \"d\"", true}, {"a", "\x80\xff", true}, {"a", "\u00a0", true},
		{"a b", "", false}, {" a", "", false}, {"a ", "", false}, {"a\t", "", false}, {"a:", "", false}, {":", "", false},
		{"a\r\n", "", false}, {"a\x00", "", false}, {"a\x7f", "", false}, {"\x80", "", false}, {"\u00e4", "", false},
		{"a", " ", false}, {"a", "\t", false}, {"a", " x", false}, {"a", "x ", false}, {"a", "\tx", false}, {"a", "x\t", false},
		{"a", "x\n", false}, {"a", "x\r\n", false}, {"a", "x\r\ny: z", false}, {"a", "\r", false}, {"a", "x\x00y", false}, {"a", "\x7f", false},
		{"a b", " x", false}, {"", " ", false},
	} {
		f := api.Field{Name: x.name, Value: x.value}
		if field.Valid(f) != x.want {
			t.Errorf("Valid(%q) is not %v", f, x.want)
		}
	}
}

// Each byte counts, wherever it stands in the name or in the value.
func TestValidOfAllBytes(t *testing.T) {
	for i := range 256 {
		c := string([]byte{byte(i)})
		for _, s := range []string{c, c + "ab", "a" + c + "b", "ab" + c} {
			for _, f := range []api.Field{{Name: s}, {Name: "a", Value: s}, {Name: s, Value: s}, {Value: s}} {
				if got := field.Valid(f); got != wantValid(f) {
					t.Errorf("Valid(%q) = %v", f, got)
				}
			}
		}
	}
}

func TestValidArbitrary(t *testing.T) {
	short := words(edges, 2)
	for i, s := range short {
		for _, f := range []api.Field{{Name: s}, {Name: "a", Value: s}, {Name: s, Value: short[(7*i)%len(short)]}} {
			if got := field.Valid(f); got != wantValid(f) {
				t.Fatalf("Valid(%q) = %v", f, got)
			}
		}
	}
	r := rand.New(rand.NewSource(2))
	for range 20000 {
		if f := randomField(r); field.Valid(f) != wantValid(f) {
			t.Fatalf("Valid(%q) = %v", f, field.Valid(f))
		}
		if f := randomValid(r); !field.Valid(f) {
			t.Fatalf("%q is not valid", f)
		}
	}
}

// P6.2

// some has one name twice, in two cases, and another name between them.
var some = []api.Field{{Name: "Via", Value: "1, 2"}, {Name: "Host", Value: "x"}, {Name: "vIA", Value: "3"}, {Name: "", Value: " ,\t"}}

func TestValues(t *testing.T) {
	for _, x := range []struct {
		name             string
		values, elements []string
	}{
		{"Via", []string{"1, 2", "3"}, []string{"1", "2", "3"}}, {"vIA", []string{"1, 2", "3"}, []string{"1", "2", "3"}},
		{"VIA", []string{"1, 2", "3"}, []string{"1", "2", "3"}}, {"hOST", []string{"x"}, []string{"x"}},
		{"", []string{" ,\t"}, nil}, {"Vi", nil, nil}, {"Viaa", nil, nil}, {"Via ", nil, nil}, {"x", nil, nil}, {"\xff", nil, nil},
	} {
		if got := field.Values(some, x.name); !slices.Equal(got, x.values) {
			t.Errorf("Values(%q) = %q, want %q", x.name, got, x.values)
		}
		if got := field.Has(some, x.name); got != (len(x.values) > 0) {
			t.Errorf("Has(%q) = %v", x.name, got)
		}
		if got := field.Elements(some, x.name); !slices.Equal(got, x.elements) {
			t.Errorf("Elements(%q) = %q, want %q", x.name, got, x.elements)
		}
		for _, none := range [][]api.Field{nil, {}} {
			if len(field.Values(none, x.name)) > 0 || field.Has(none, x.name) || len(field.Elements(none, x.name)) > 0 {
				t.Errorf("without fields, there are some with the name %q", x.name)
			}
		}
	}
}

// A field counts even if it is not valid or its value is empty, and values stay as they are.
func TestValuesAsTheyAre(t *testing.T) {
	l := []api.Field{{Name: "a"}, {Name: "a b", Value: " x\r\n"}, {Name: "A", Value: " y ,, z\t"}, {Name: "A B"}, {Name: "a"}}
	if got := field.Values(l, "a"); !slices.Equal(got, []string{"", " y ,, z\t", ""}) {
		t.Errorf("%q", got)
	}
	if got := field.Values(l, "A b"); !slices.Equal(got, []string{" x\r\n", ""}) || !field.Has(l[3:], "a b") {
		t.Errorf("%q", got)
	}
	if got := field.Elements(l, "A"); !slices.Equal(got, []string{"y", "z"}) {
		t.Errorf("%q", got)
	}
	if got := field.Elements(l, "A b"); !slices.Equal(got, []string{"x\r\n"}) {
		t.Errorf("%q", got)
	}
	if !field.Has(l[:1], "A") || len(field.Elements(l[:1], "A")) > 0 {
		t.Error("a field with an empty value is one, and has no elements")
	}
}

// Just the letters A to Z have two cases.
func TestNamesOfAllBytes(t *testing.T) {
	for i := range 256 {
		for j := range 256 {
			l := []api.Field{{Name: "x" + string([]byte{byte(i)}), Value: "v"}}
			name := "X" + string([]byte{byte(j)})
			want := wantFold(l[0].Name, name)
			if field.Has(l, name) != want || (len(field.Values(l, name)) > 0) != want || (len(field.Elements(l, name)) > 0) != want {
				t.Fatalf("a field %q is one with the name %q: not %v", l[0].Name, name, want)
			}
			if kept := field.Without(l, name); slices.Equal(kept, l) == want {
				t.Fatalf("a field %q without the name %q: %q", l[0].Name, name, kept)
			}
		}
	}
}

func TestValuesArbitrary(t *testing.T) {
	r := rand.New(rand.NewSource(3))
	for _, l := range lists() {
		for _, name := range slices.Concat(names, randomNames(r, l)) {
			if got, want := field.Values(l, name), wantValues(l, name); !slices.Equal(got, want) {
				t.Fatalf("Values(%q, %q) = %q, want %q", l, name, got, want)
			}
			if got, want := field.Has(l, name), len(wantValues(l, name)) > 0; got != want {
				t.Fatalf("Has(%q, %q) = %v", l, name, got)
			}
			if got, want := field.Elements(l, name), wantElements(l, name); !slices.Equal(got, want) {
				t.Fatalf("Elements(%q, %q) = %q, want %q", l, name, got, want)
			}
		}
	}
}

func TestWithout(t *testing.T) {
	for _, x := range []struct{ names, want []string }{
		{nil, []string{"Via", "Host", "vIA", ""}}, {[]string{}, []string{"Via", "Host", "vIA", ""}},
		{[]string{"x", "Vi", "Hosts", " "}, []string{"Via", "Host", "vIA", ""}},
		{[]string{"via"}, []string{"Host", ""}}, {[]string{"HOST"}, []string{"Via", "vIA", ""}}, {[]string{""}, []string{"Via", "Host", "vIA"}},
		{[]string{"x", "host", "VIA"}, []string{""}}, {[]string{"host", "x", "Host"}, []string{"Via", "vIA", ""}},
		{[]string{"VIA", "", "host"}, nil}, {[]string{"Via,Host", "Via Host"}, []string{"Via", "Host", "vIA", ""}},
	} {
		var got []string
		for _, f := range field.Without(some, x.names...) {
			got = append(got, f.Name)
			if !slices.Contains(some, f) {
				t.Errorf("without %q, there is %q", x.names, f)
			}
		}
		if !slices.Equal(got, x.want) {
			t.Errorf("without %q, %q are left, want %q", x.names, got, x.want)
		}
		if none := field.Without(nil, x.names...); len(none) > 0 {
			t.Errorf("of no fields, %q are left", none)
		}
	}
}

func TestWithoutArbitrary(t *testing.T) {
	r := rand.New(rand.NewSource(4))
	for _, l := range lists() {
		for range 10 {
			unwanted := randomNames(r, l)
			if got, want := field.Without(l, unwanted...), wantWithout(l, unwanted); !slices.Equal(got, want) {
				t.Fatalf("Without(%q, %q) = %q, want %q", l, unwanted, got, want)
			}
		}
	}
}

func TestWith(t *testing.T) {
	for at := range len(some) + 1 {
		if got := field.With(some[:at], some[at:]...); !slices.Equal(got, some) {
			t.Errorf("With of the first %d and the others is %q", at, got)
		}
	}
	if got := field.With(nil); len(got) > 0 {
		t.Errorf("With of nothing is %q", got)
	}
	twice := []api.Field{some[0], some[0], {}, some[0]}
	if got := field.With(twice[:1], twice[1:]...); !slices.Equal(got, twice) {
		t.Errorf("With leaves equal fields out, or empty ones: %q", got)
	}
}

func TestWithArbitrary(t *testing.T) {
	all := lists()
	for i, l := range all {
		more := all[len(all)-1-i]
		got := field.With(l, more...)
		if len(got) != len(l)+len(more) || !slices.Equal(got[:len(l)], l) || !slices.Equal(got[len(l):], more) {
			t.Fatalf("With(%q, %q) = %q", l, more, got)
		}
	}
}

// P6.3

func TestFormat(t *testing.T) {
	for _, x := range []struct {
		l    []api.Field
		want string
	}{
		{nil, ""}, {[]api.Field{}, ""},
		{[]api.Field{{Name: "Host", Value: "a"}}, "Host: a\r\n"},
		{[]api.Field{{Name: "a"}}, "a: \r\n"},
		{[]api.Field{{Name: "a", Value: "b:c"}}, "a: b:c\r\n"},
		{[]api.Field{{Name: "a", Value: "b \t c"}}, "a: b \t c\r\n"},
		{[]api.Field{{Name: "A", Value: "1, 2"}, {Name: "b", Value: "\x80\xff"}, {Name: "a"}}, "A: 1, 2\r\nb: \x80\xff\r\na: \r\n"},
		{[]api.Field{{Name: "a", Value: "x"}, {Name: "a", Value: "x"}}, "a: x\r\na: x\r\n"},
		{[]api.Field{{}}, ""},
	} {
		if got := field.Format(x.l); got != x.want {
			t.Errorf("Format(%q) = %q, want %q", x.l, got, x.want)
		}
	}
}

// One field that is not valid, wherever it stands, leaves nothing.
func TestFormatInvalid(t *testing.T) {
	for _, f := range []api.Field{
		{}, {Value: "x"}, {Name: "a b"}, {Name: "a:"}, {Name: "a\r\nb"}, {Name: "\x80"},
		{Name: "a", Value: " "}, {Name: "a", Value: " x"}, {Name: "a", Value: "x\t"}, {Name: "a", Value: "x\r\ny: z"}, {Name: "a", Value: "\x00"}, {Name: "a", Value: "\x7f"},
	} {
		valid := []api.Field{{Name: "a", Value: "x"}, {Name: "b", Value: "y"}, {Name: "c", Value: "z"}}
		for at := range len(valid) + 1 {
			l := slices.Insert(slices.Clone(valid), at, f)
			if got := field.Format(l); got != "" {
				t.Errorf("Format(%q) = %q", l, got)
			}
		}
	}
}

func TestFormatArbitrary(t *testing.T) {
	for _, l := range lists() {
		if got, want := field.Format(l), wantFormat(l); got != want {
			t.Fatalf("Format(%q) = %q, want %q", l, got, want)
		}
	}
	r := rand.New(rand.NewSource(5))
	for range 3000 {
		l := make([]api.Field, r.Intn(70))
		for i := range l {
			l[i] = randomValid(r)
		}
		if got, want := field.Format(l), wantFormat(l); got != want {
			t.Fatalf("Format(%q) = %q, want %q", l, got, want)
		}
		l = append(l, randomField(r))
		if got, want := field.Format(l), wantFormat(l); got != want {
			t.Fatalf("Format(%q) = %q, want %q", l, got, want)
		}
	}
}

// P6.4

func TestParse(t *testing.T) {
	for _, x := range []struct{ line, name, value string }{
		{"Host:  a ", "Host", "a"}, {"Host:a", "Host", "a"}, {"hOST: a", "hOST", "a"},
		{"a:", "a", ""}, {"a: ", "a", ""}, {"a: \t \t", "a", ""}, {"a:\tb\t", "a", "b"}, {"a: \t b \t c \t ", "a", "b \t c"},
		{"a:b:c", "a", "b:c"}, {"a::", "a", ":"}, {"a: : b:", "a", ": b:"}, {"a: b, c", "a", "b, c"},
		{"a:\x80\xff", "a", "\x80\xff"}, {"a:\u00a0", "a", "\u00a0"}, {tokenBytes + ":!~", tokenBytes, "!~"},
	} {
		want := api.Field{Name: x.name, Value: x.value}
		if got, e := field.Parse(x.line); got != want || e != api.OK {
			t.Errorf("Parse(%q) = %q, %d, want %q", x.line, got, e, want)
		}
	}
	for _, line := range []string{
		"", " ", "Host", "Host a", "Host;a", ":", "::", ":a", ": a", "Host : a", "Host\t:a", " Host: a", "\tHost: a", "a b: c", "a,b: c",
		"a\x00: b", "a\x7f: b", "\x80: b", "\u00e4: b", "a\r: b", "a\n: b", "\r\na: b",
		"a: b\x00", "a: \x00b", "a: b\x7f", "a: b\r", "a: b\n", "a: b\r\n", "a:\r\n", "a: b\r\nc: d", "a: b\r\n c", "a: b\x1fc", "a:\x0b", "a: \x08",
	} {
		if got, e := field.Parse(line); got != (api.Field{}) || e != api.ErrSyntax {
			t.Errorf("Parse(%q) = %q, %d", line, got, e)
		}
	}
}

func checkParse(t *testing.T, line string) {
	t.Helper()
	got, e := field.Parse(line)
	if want, wantE := wantParse(line); got != want || e != wantE {
		t.Fatalf("Parse(%q) = %q, %d, want %q, %d", line, got, e, want, wantE)
	}
	if (e == api.OK) != field.Valid(got) {
		t.Fatalf("Parse(%q) = %q, %d: valid %v", line, got, e, field.Valid(got))
	}
}

func TestParseShort(t *testing.T) {
	for _, line := range words("a: \t\n\x80", 6) {
		checkParse(t, line)
	}
	for _, line := range words(edges, 3) {
		checkParse(t, line)
	}
	for i := range 256 {
		c := string([]byte{byte(i)})
		for _, line := range []string{c, c + ":b", "a" + c, "a" + c + "b", "a" + c + ":b", "a:" + c, "a:" + c + "b", "a:b" + c, "a:b" + c + "d", "a: b " + c + " "} {
			checkParse(t, line)
		}
	}
}

func TestParseArbitrary(t *testing.T) {
	r := rand.New(rand.NewSource(6))
	for range 20000 {
		f := randomField(r)
		checkParse(t, f.Name+":"+random(r, " \t", 3)+f.Value+random(r, " \t", 3))
		checkParse(t, f.Name+": "+f.Value+"\r\n")
		checkParse(t, f.Name+random(r, edges, 2)+f.Value)
		checkParse(t, random(r, allBytes(), 40))
		checkParse(t, random(r, edges, 10))
	}
}

// P6.5

func checkParseOfLine(t *testing.T, f api.Field) {
	t.Helper()
	line, ended := strings.CutSuffix(field.Format([]api.Field{f}), "\r\n")
	if !ended || strings.ContainsAny(line, "\r\n") {
		t.Fatalf("the line of %q is %q", f, line)
	}
	if got, e := field.Parse(line); got != f || e != api.OK {
		t.Fatalf("the line of %q is %q, and Parse of it is %q, %d", f, line, got, e)
	}
}

func TestParseOfLine(t *testing.T) {
	for _, f := range []api.Field{
		{Name: "a"}, {Name: "Host", Value: "a"}, {Name: "a", Value: ":"}, {Name: "a", Value: "b: c"}, {Name: "a", Value: "b \t c"},
		{Name: tokenBytes, Value: "a" + valueBytes() + "b"}, {Name: "~", Value: "\x80\xff"},
	} {
		checkParseOfLine(t, f)
	}
	valid := 0
	for _, f := range words(edges, 2) {
		for _, x := range []api.Field{{Name: f}, {Name: "a", Value: f}} {
			if field.Valid(x) {
				valid++
				checkParseOfLine(t, x)
			}
		}
	}
	if valid == 0 {
		t.Error("no field is valid")
	}
	r := rand.New(rand.NewSource(7))
	for range 20000 {
		checkParseOfLine(t, randomValid(r))
	}
}

// The lines of several fields are those of the fields, in order.
func TestParseOfLines(t *testing.T) {
	r := rand.New(rand.NewSource(8))
	for range 1000 {
		l := make([]api.Field, 1+r.Intn(20))
		for i := range l {
			l[i] = randomValid(r)
		}
		var got []api.Field
		for rest := field.Format(l); rest != ""; {
			line, next, ended := strings.Cut(rest, "\r\n")
			f, e := field.Parse(line)
			if !ended || e != api.OK {
				t.Fatalf("Format(%q) = %q has the line %q", l, field.Format(l), line)
			}
			got, rest = append(got, f), next
		}
		if !slices.Equal(got, l) {
			t.Fatalf("%q becomes %q", l, got)
		}
	}
}

func TestWithoutHasNone(t *testing.T) {
	r := rand.New(rand.NewSource(9))
	for _, l := range lists() {
		picked := randomNames(r, l)
		kept := field.Without(l, picked...)
		for _, name := range picked {
			if field.Has(kept, name) || len(field.Values(kept, name)) > 0 {
				t.Fatalf("without %q, %q has %q", picked, kept, name)
			}
		}
		rest := kept
		for _, f := range l {
			if slices.ContainsFunc(picked, func(name string) bool { return wantFold(f.Name, name) }) {
				continue
			}
			if len(rest) == 0 || rest[0] != f {
				t.Fatalf("of %q without %q, %q is left: %q is not kept in order", l, picked, kept, f)
			}
			rest = rest[1:]
		}
		if len(rest) > 0 {
			t.Fatalf("of %q without %q, %q is left", l, picked, kept)
		}
	}
}

// The general rules.

// R2 and R3: the arguments stay as they are, and nothing is kept from call to call.
func TestArgumentsStay(t *testing.T) {
	r := rand.New(rand.NewSource(10))
	for _, l := range lists() {
		picked := append(randomNames(r, l), "A", "b")
		beforeL, beforeNames := slices.Clone(l), slices.Clone(picked)
		values, elements, text := field.Values(l, picked[0]), field.Elements(l, picked[0]), field.Format(l)
		kept, both := field.Without(l, picked...), field.With(l, l...)
		if !slices.Equal(l, beforeL) || !slices.Equal(picked, beforeNames) {
			t.Fatalf("%q or %q is changed", beforeL, beforeNames)
		}
		if !slices.Equal(values, field.Values(l, picked[0])) || !slices.Equal(elements, field.Elements(l, picked[0])) || text != field.Format(l) ||
			!slices.Equal(kept, field.Without(l, picked...)) || !slices.Equal(both, field.With(l, l...)) {
			t.Fatalf("%q and %q: the second result differs", l, picked)
		}
	}
}

// spoil changes the elements of a slice, and those in its spare capacity.
func spoil[E any](l []E, e E) {
	l = l[:cap(l)]
	for i := range l {
		l[i] = e
	}
}

// R2: a result changes neither with the arguments nor with another result, even
// where elements are written into spare capacity.
func TestResultsShareNothing(t *testing.T) {
	r := rand.New(rand.NewSource(11))
	for _, sample := range lists() {
		l := append(make([]api.Field, 0, len(sample)+3), sample...)
		more := append(make([]api.Field, 0, 5), api.Field{Name: "a"}, api.Field{Name: "b"})
		picked := randomNames(r, l)
		results := [][]api.Field{
			field.Without(l), field.Without(l, picked...), field.Without(l, "a"), field.Without(more),
			field.With(l), field.With(l, more...), field.With(l, more[:1]...), field.With(nil, more...), field.With(nil, l...), l, more,
		}
		var want [][]api.Field
		for _, x := range results {
			want = append(want, slices.Clone(x))
		}
		for i, x := range results {
			spoil(x, api.Field{Name: "?", Value: "!"})
			for j := i + 1; j < len(results); j++ {
				if !slices.Equal(results[j], want[j]) {
					t.Fatalf("%q and %q: the results %d and %d share memory", sample, picked, i, j)
				}
			}
		}
	}
}

func TestStringsShareNothing(t *testing.T) {
	for _, l := range lists() {
		first, second := field.Values(l, "a"), field.Values(l, "a")
		elements, others := field.Elements(l, "a"), field.Elements(l, "a")
		spoil(first, "?")
		spoil(elements, "?")
		if !slices.Equal(second, wantValues(l, "a")) || !slices.Equal(others, wantElements(l, "a")) {
			t.Fatalf("%q: the results share memory", l)
		}
	}
}

// R2: the fields behind the end of a slice belong to its owner, and two ways on
// from one list do not meet.
func TestSpareCapacityStays(t *testing.T) {
	whole := slices.Clone(some)
	left := field.With(whole[:1], api.Field{Name: "x"})
	right := field.With(whole[:1], api.Field{Name: "y"})
	if !slices.Equal(whole, some) || left[1].Name != "x" || right[1].Name != "y" {
		t.Errorf("%q, %q, of %q", left, right, whole)
	}
	started := field.With(field.With(whole[:1]), whole[1])
	left = field.With(started, api.Field{Name: "x"})
	right = field.With(started, api.Field{Name: "y"})
	if left[2].Name != "x" || right[2].Name != "y" {
		t.Errorf("%q, %q", left, right)
	}
	_ = append(field.Without(whole[:2]), api.Field{Name: "z"})
	_ = append(field.Without(whole, "x"), api.Field{Name: "z"})
	if !slices.Equal(whole, some) {
		t.Errorf("%q is changed", whole)
	}
}

// Long lists and long strings are treated as short ones are.
func TestGreat(t *testing.T) {
	var l []api.Field
	var unwanted []string
	for i := range 100000 {
		l = append(l, api.Field{Name: "a" + strings.Repeat("b", i%100), Value: "1,2"}, api.Field{Name: "c"})
		unwanted = append(unwanted, "A"+strings.Repeat("B", i%100))
	}
	kept := field.Without(l, unwanted...)
	if len(kept) != 100000 || field.Has(kept, "a") || len(field.Values(kept, "C")) != 100000 || len(field.Elements(l, "A")) != 2000 {
		t.Errorf("%d fields are left, %d elements", len(kept), len(field.Elements(l, "A")))
	}
	if text := field.Format(kept); text != strings.Repeat("c: \r\n", 100000) {
		t.Errorf("%d bytes", len(text))
	}
	long := strings.Repeat("x", 1000000)
	if f, e := field.Parse(long + ":" + strings.Repeat(" ", 1000000) + long + "\t"); f != (api.Field{Name: long, Value: long}) || e != api.OK {
		t.Errorf("%d and %d bytes, %d", len(f.Name), len(f.Value), e)
	}
}
