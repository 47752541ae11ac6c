package json_test

import (
	standard "encoding/json"
	"fmt"
	"math/big"
	"regexp"
	"slices"
	"strconv"
	"testing"

	"canary/api"
	"canary/json"
)

// The oracle says what the functions return as the document says it, with regular
// expressions and numbers of any size, and calls no other layer. That the texts are
// JSON is told by the standard library.

// These speak of runes, one for each byte (see wide).
var (
	markedForm = regexp.MustCompile(`["\\]`)
	otherForm  = regexp.MustCompile(`[^ -~]`)
	textForm   = regexp.MustCompile(`^"(([ !#-[\]-~]|\\["\\]|\\u00([01][0-9a-f]|7f|[89a-f][0-9a-f]))*)"$`)
	writtenFor = regexp.MustCompile(`\\u00..|\\?.`)
)

// wide returns a string with a rune for each byte of s, so that the expressions speak of bytes.
func wide(s string) string {
	runes := make([]rune, len(s))
	for i := range len(s) {
		runes[i] = rune(s[i])
	}
	return string(runes)
}

func wantQuote(s string) string {
	marked := markedForm.ReplaceAllString(wide(s), `\$0`)
	return `"` + otherForm.ReplaceAllStringFunc(marked, func(c string) string {
		return fmt.Sprintf(`\u%04x`, []rune(c)[0])
	}) + `"`
}

func wantUnquote(s string) (string, api.Errno) {
	found := textForm.FindStringSubmatch(wide(s))
	if found == nil {
		return "", api.ErrSyntax
	}
	var b []byte
	for _, x := range writtenFor.FindAllString(found[1], -1) {
		if len(x) > 2 {
			code, _ := strconv.ParseUint(x[4:], 16, 8)
			x = string([]byte{byte(code)})
		}
		b = append(b, x[len(x)-1])
	}
	return string(b), api.OK
}

func wantNumber(n int) string { return big.NewInt(int64(n)).String() }

func wantObject(l []api.Pair) string {
	text := []byte{'{'}
	for i, p := range l {
		text = fmt.Appendf(text, "%s%s:%s", ","[:min(i, 1)], wantQuote(p.Name), p.Value)
	}
	return string(text) + "}"
}

func wantArray(l []string) string {
	text := []byte{'['}
	for i, s := range l {
		text = fmt.Appendf(text, "%s%s", ","[:min(i, 1)], s)
	}
	return string(text) + "]"
}

// These compare a function with the oracle, twice, since nothing is kept from call to call.

// checkQuote also looks whether the text is JSON, and is read as the bytes of s (P21.3).
func checkQuote(t *testing.T, s string) {
	t.Helper()
	want := wantQuote(s)
	for range 2 {
		if got := json.Quote(s); got != want {
			t.Fatalf("Quote(%q) = %s, want %s", s, got, want)
		}
		if got, e := json.Unquote(want); got != s || e != api.OK {
			t.Fatalf("Unquote(Quote(%q)) = %q, %d", s, got, e)
		}
	}
	var read string
	if e := standard.Unmarshal([]byte(json.Quote(s)), &read); e != nil || read != wide(s) {
		t.Fatalf("%s, the Quote of %q, is read as %q, %v", want, s, read, e)
	}
}

// checkUnquote also looks whether a text that is accepted is the Quote of its string (P21.3).
func checkUnquote(t *testing.T, s string) {
	t.Helper()
	want, wantE := wantUnquote(s)
	for range 2 {
		if got, e := json.Unquote(s); got != want || e != wantE {
			t.Fatalf("Unquote(%q) = %q, %d, want %q, %d", s, got, e, want, wantE)
		}
	}
	if got, e := json.Unquote(s); e == api.OK && json.Quote(got) != s {
		t.Fatalf("Unquote(%q) = %q, whose Quote is %q", s, got, json.Quote(got))
	}
}

// checkNumber also looks whether the text is read as n.
func checkNumber(t *testing.T, n int) {
	t.Helper()
	for range 2 {
		if got, want := json.Number(n), wantNumber(n); got != want {
			t.Fatalf("Number(%d) = %q, want %q", n, got, want)
		}
	}
	var read int
	if e := standard.Unmarshal([]byte(json.Number(n)), &read); e != nil || read != n {
		t.Fatalf("Number(%d) is read as %d, %v", n, read, e)
	}
}

// guarded returns a copy of l with something behind it, which belongs to nobody else,
// and a function that reports what a call changed of it, or behind it.
func guarded[E comparable](l []E, more E) (own []E, check func(*testing.T)) {
	before := slices.Concat(l, []E{more, more, more})
	memory := slices.Clone(before)
	return memory[:len(l)], func(t *testing.T) {
		t.Helper()
		if !slices.Equal(memory, before) {
			t.Fatalf("%v has been changed: %v", before, memory)
		}
	}
}

func overwrite[E any](l []E, by E) {
	for i := range l {
		l[i] = by
	}
}

// A result stays as it is while the arguments are overwritten.

func checkObject(t *testing.T, l ...api.Pair) {
	t.Helper()
	own, check := guarded(l, api.Pair{Name: "behind", Value: "behind"})
	got, again, want := json.Object(own...), json.Object(own...), wantObject(l)
	check(t)
	overwrite(own, api.Pair{Name: "overwritten", Value: "overwritten"})
	if got != want || again != want {
		t.Fatalf("Object(%q) = %q, and again %q, want %q", l, got, again, want)
	}
}

func checkArray(t *testing.T, l ...string) {
	t.Helper()
	own, check := guarded(l, "behind")
	got, again, want := json.Array(own...), json.Array(own...), wantArray(l)
	check(t)
	overwrite(own, "overwritten")
	if got != want || again != want {
		t.Fatalf("Array(%q) = %q, and again %q, want %q", l, got, again, want)
	}
}
