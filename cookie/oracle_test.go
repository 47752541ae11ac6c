package cookie_test

import (
	"regexp"
	"slices"
	"testing"

	"canary/api"
	"canary/cookie"
)

// The oracle says what the functions return as the document says it, with regular
// expressions, and calls no other layer.

// These speak of runes, one for each byte (see wide).
var (
	nameForm   = regexp.MustCompile(`^(?i:cookie)$`)
	partForm   = regexp.MustCompile(`(?s)[^;]+`)
	cookieForm = regexp.MustCompile("(?s)^[\t ]*([-A-Za-z0-9!#$%&'*+.^_`|~]+)=(.*?)[\t ]*$")
	tokenForm  = regexp.MustCompile("^[-A-Za-z0-9!#$%&'*+.^_`|~]+$")
	valueForm  = regexp.MustCompile(`^([!-~\x{80}-\x{ff}]([\t -~\x{80}-\x{ff}]*[!-~\x{80}-\x{ff}])?)?$`)
	idForm     = regexp.MustCompile(`^[0-9a-f]{16}$`)
)

// wide returns a string with a rune for each byte of s, so that the expressions speak of bytes.
func wide(s string) string {
	runes := make([]rune, len(s))
	for i := range len(s) {
		runes[i] = rune(s[i])
	}
	return string(runes)
}

func narrow(s string) string {
	var b []byte
	for _, r := range s {
		b = append(b, byte(r))
	}
	return string(b)
}

func wantPairs(l []api.Field) []api.Pair {
	var pairs []api.Pair
	for _, f := range l {
		if !nameForm.MatchString(wide(f.Name)) {
			continue
		}
		for _, part := range partForm.FindAllString(wide(f.Value), -1) {
			if found := cookieForm.FindStringSubmatch(part); found != nil {
				pairs = append(pairs, api.Pair{Name: narrow(found[1]), Value: narrow(found[2])})
			}
		}
	}
	return pairs
}

func wantFind(pairs []api.Pair, name string) (string, bool) {
	values := map[string]string{}
	for _, p := range slices.Backward(pairs) {
		values[p.Name] = p.Value
	}
	value, found := values[name]
	return value, found
}

func wantID(s string) bool { return idForm.MatchString(wide(s)) }

func wantIssue(name, id string) api.Field {
	return of("Set-Cookie", name+"="+id+"; Path=/; HttpOnly")[0]
}

// canBeSent reports whether all fields have names and values that a field may have.
func canBeSent(l []api.Field) bool {
	return !slices.ContainsFunc(l, func(f api.Field) bool {
		return !tokenForm.MatchString(wide(f.Name)) || !valueForm.MatchString(wide(f.Value))
	})
}

// others are names that a client might be thought to have sent, or that no cookie can have.
var others = []string{"", "a", "A", "b", "a ", " a", "a=", "=", "a;", "a=1", ";", "\"a\"", "Path", "Cookie", "\x00", "\xff"}

// check compares Pairs and Find with the oracle on these fields, and on names that
// their cookies have and others; twice, since nothing is kept from call to call.
func check(t *testing.T, l []api.Field, names ...string) {
	t.Helper()
	before := slices.Clone(l)
	want := wantPairs(before)
	names = slices.Concat(names, others)
	for i, p := range want {
		if i < 20 {
			names = append(names, p.Name, p.Name+" ", p.Value)
		}
	}
	for range 2 {
		if got := cookie.Pairs(l); !slices.Equal(got, want) {
			t.Fatalf("Pairs(%q) = %q, want %q", before, got, want)
		}
		for _, name := range names {
			value, found := cookie.Find(l, name)
			if wantValue, wantFound := wantFind(want, name); value != wantValue || found != wantFound {
				t.Fatalf("Find(%q, %q) = %q, %v, want %q, %v", before, name, value, found, wantValue, wantFound)
			}
		}
	}
	if !slices.Equal(l, before) {
		t.Fatalf("%q are changed to %q", before, l)
	}
}

// checkID compares ID and Issue with the oracle.
func checkID(t *testing.T, name, id string) {
	t.Helper()
	for range 2 {
		if got, want := cookie.ID(id), wantID(id); got != want {
			t.Fatalf("ID(%q) = %v", id, got)
		}
		if got, want := cookie.Issue(name, id), wantIssue(name, id); got != want {
			t.Fatalf("Issue(%q, %q) = %q, want %q", name, id, got, want)
		}
	}
}

// checkKept looks whether a client that has a token as the name and an ID gets its ID found (P14.3).
func checkKept(t *testing.T, name, id string) {
	t.Helper()
	if !tokenForm.MatchString(wide(name)) || !wantID(id) || !cookie.ID(id) {
		t.Fatalf("%q is no token, or %q is no ID", name, id)
	}
	for _, header := range []string{"Cookie", "cookie", "COOKIE", "cOOkie"} {
		l := of("Host", "a", header, name+"="+id, "X-"+header, name+"=1")
		if got, found := cookie.Find(l, name); got != id || !found {
			t.Fatalf("Find(%q, %q) = %q, %v", l, name, got, found)
		}
	}
}
