package hop_test

import (
	"bytes"
	"fmt"
	"regexp"
	"slices"
	"strings"
	"testing"

	"canary/api"
	"canary/hop"
)

// The oracle says what the functions return as the document says it, with regular
// expressions, and calls no other layer.

// These speak of runes, one for each byte (see wide).
var (
	hopForm     = regexp.MustCompile(`^(?i:connection|keep-alive|proxy-connection|te|trailer|transfer-encoding|upgrade|expect|content-length)$`)
	keptForm    = regexp.MustCompile(`^(?i:host|cookie)$`)
	elementForm = regexp.MustCompile(`[^, \t](?:[^,]*[^, \t])?`)
	digitsForm  = regexp.MustCompile(`^[0-9]+$`)
)

// wide returns a string with a rune for each byte of s, so that the expressions speak of bytes.
func wide(s string) string {
	runes := make([]rune, len(s))
	for i := range len(s) {
		runes[i] = rune(s[i])
	}
	return string(runes)
}

func narrow(s string) string {
	var b []byte
	for _, r := range s {
		b = append(b, byte(r))
	}
	return string(b)
}

// lower is strings.ToLower for the letters A to Z only.
func lower(s string) string {
	b := []byte(s)
	for i, c := range b {
		if 'A' <= c && c <= 'Z' {
			b[i] = c + 32
		}
	}
	return string(b)
}

func sameName(a, b string) bool { return lower(a) == lower(b) }

func wantWithout(l []api.Field, name string) []api.Field {
	return slices.DeleteFunc(slices.Clone(l), func(f api.Field) bool { return sameName(f.Name, name) })
}

func wantValues(l []api.Field, name string) []string {
	var values []string
	for _, f := range l {
		if sameName(f.Name, name) {
			values = append(values, f.Value)
		}
	}
	return values
}

func wantElements(l []api.Field, name string) []string {
	var elements []string
	for _, x := range elementForm.FindAllString(wide(strings.Join(wantValues(l, name), ",")), -1) {
		elements = append(elements, narrow(x))
	}
	return elements
}

func wantStrip(l []api.Field) []api.Field {
	named := map[string]bool{}
	for _, name := range wantElements(l, "Connection") {
		named[lower(name)] = !keptForm.MatchString(wide(name))
	}
	var kept []api.Field
	for _, f := range l {
		if !hopForm.MatchString(wide(f.Name)) && !named[lower(f.Name)] {
			kept = append(kept, f)
		}
	}
	return kept
}

func wantVia(l []api.Field) []api.Field {
	value := strings.Join(append(wantElements(l, "Via"), "1.1 canary"), ", ")
	return append(wantWithout(l, "Via"), api.Field{Name: "Via", Value: value})
}

func wantForward(r api.Request, peer string) api.Request {
	stripped := wantStrip(r.Fields)
	peers := strings.Join(append(wantElements(stripped, "X-Forwarded-For"), peer), ", ")
	fields := wantVia(append(wantWithout(stripped, "X-Forwarded-For"), of("X-Forwarded-For", peers)...))
	if r.Framed {
		fields = append(fields, of("Content-Length", fmt.Sprint(len(r.Body)))...)
	}
	return api.Request{Method: r.Method, Target: r.Target, Minor: 1, Fields: fields, Framed: r.Framed, Body: r.Body}
}

// wantLength returns the value of the field Content-Length of a response, and whether there is one.
func wantLength(method string, a api.Reply, size int) (string, bool) {
	if a.Status == 204 {
		return "", false
	}
	if method == "HEAD" || a.Status == 304 {
		values := wantValues(a.Fields, "Content-Length")
		if len(values) == 1 && digitsForm.MatchString(wide(values[0])) {
			return values[0], true
		}
		return "", false
	}
	if size < 0 {
		return "", true
	}
	return fmt.Sprint(size), true
}

func wantBackward(method string, a api.Reply, size int, more []api.Field) api.Reply {
	fields := append(wantVia(wantStrip(a.Fields)), more...)
	if value, ok := wantLength(method, a, size); ok {
		fields = append(fields, of("Content-Length", value)...)
	}
	return api.Reply{Status: a.Status, Reason: a.Reason, Minor: 1, Fields: fields, Body: a.Body}
}

func sameRequest(a, b api.Request) bool {
	return a.Method == b.Method && a.Target == b.Target && a.Minor == b.Minor && a.Framed == b.Framed &&
		slices.Equal(a.Fields, b.Fields) && bytes.Equal(a.Body, b.Body)
}

func sameReply(a, b api.Reply) bool {
	return a.Status == b.Status && a.Reason == b.Reason && a.Minor == b.Minor &&
		slices.Equal(a.Fields, b.Fields) && bytes.Equal(a.Body, b.Body)
}

// These compare a function with the oracle, twice, since nothing is kept from call
// to call, and look whether an argument is changed.

func checkFields(t *testing.T, l []api.Field) {
	t.Helper()
	before := slices.Clone(l)
	for range 2 {
		if got, want := hop.Strip(l), wantStrip(before); !slices.Equal(got, want) {
			t.Fatalf("Strip(%q) = %q, want %q", before, got, want)
		}
		if got, want := hop.Via(l), wantVia(before); !slices.Equal(got, want) {
			t.Fatalf("Via(%q) = %q, want %q", before, got, want)
		}
	}
	if again := hop.Strip(hop.Strip(l)); !slices.Equal(again, hop.Strip(l)) {
		t.Fatalf("Strip(Strip(%q)) = %q", before, again)
	}
	if !slices.Equal(l, before) {
		t.Fatalf("%q are changed to %q", before, l)
	}
}

func checkForward(t *testing.T, r api.Request, peer string) {
	t.Helper()
	fields, body := slices.Clone(r.Fields), bytes.Clone(r.Body)
	for range 2 {
		if got, want := hop.Forward(r, peer), wantForward(r, peer); !sameRequest(got, want) {
			t.Fatalf("Forward(%#v, %q) = %#v, want %#v", r, peer, got, want)
		}
	}
	if !slices.Equal(r.Fields, fields) || !bytes.Equal(r.Body, body) {
		t.Fatalf("the request is changed to %#v", r)
	}
	checkForwarded(t, r, peer)
}

func checkBackward(t *testing.T, method string, a api.Reply, size int, more ...api.Field) {
	t.Helper()
	fields, body, before := slices.Clone(a.Fields), bytes.Clone(a.Body), slices.Clone(more)
	for range 2 {
		if got, want := hop.Backward(method, a, size, more...), wantBackward(method, a, size, before); !sameReply(got, want) {
			t.Fatalf("Backward(%q, %#v, %d, %q) = %#v, want %#v", method, a, size, before, got, want)
		}
	}
	if !slices.Equal(a.Fields, fields) || !bytes.Equal(a.Body, body) || !slices.Equal(more, before) {
		t.Fatalf("the arguments are changed to %#v and %q", a, more)
	}
}

// check compares all functions with the oracle on messages with these fields.
func check(t *testing.T, l []api.Field) {
	t.Helper()
	checkFields(t, l)
	checkForward(t, api.Request{Method: "GET", Target: "/", Minor: 1, Fields: l}, "7")
	checkForward(t, api.Request{Method: "PUT", Target: "/a", Fields: l, Framed: true, Body: []byte("abc")}, "8")
	checkBackward(t, "GET", api.Reply{Status: 200, Reason: "OK", Minor: 1, Fields: l, Body: []byte("abc")}, 3)
	checkBackward(t, "HEAD", api.Reply{Status: 200, Fields: l}, 3, of("A", "b")...)
	checkBackward(t, "GET", api.Reply{Status: 304, Fields: l}, 3)
	checkBackward(t, "HEAD", api.Reply{Status: 204, Fields: l}, 3)
}
