package cookie_test

import (
	"fmt"
	"math/rand"
	"slices"
	"strings"
	"testing"

	"canary/api"
	"canary/cookie"
	"canary/head"
	"canary/hop"
	"canary/writer"
)

// Each promise is checked on named cases, on every name, value and ID that differs from
// one that matters in a single byte, on all short values of the bytes that matter, on all
// lists of a few fields, and on arbitrary bytes, fields and messages, those that can be
// sent and others, against an oracle that calls no other layer. Only messages are written,
// rewritten and read by layers 10, 12 and 13.

const (
	tokenBytes = "ABCDEFGHIJKLMNOPQRSTUVWXYZabcdefghijklmnopqrstuvwxyz0123456789!#$%&'*+-.^_`|~"
	idBytes    = "0123456789abcdef"
	anID       = "0123456789abcdef"
)

// headers are names of the field Cookie, and names that are like it.
var headers = []string{
	"Cookie", "cookie", "COOKIE", "cOOKiE", "Set-Cookie", "Cookie2", "Cookies", "Cooki", "ookie", "Coookie", "Cookie ", " Cookie", "Cookie:", "\"Cookie\"",
	"X-Cookie", "Cook-ie", "Coo\u212aie", "C\u00f6okie", "Cookie\x00", "Cookie\n", "\x43\x6f\x6f\x4b\x49\x65", "", "\xff",
}

// of makes fields of names and values.
func of(l ...string) []api.Field {
	var fields []api.Field
	for i := 0; i < len(l); i += 2 {
		fields = append(fields, api.Field{Name: l[i], Value: l[i+1]})
	}
	return fields
}

// pairs makes cookies of names and values.
func pairs(l ...string) []api.Pair {
	var made []api.Pair
	for _, f := range of(l...) {
		made = append(made, api.Pair(f))
	}
	return made
}

func allBytes() string {
	b := make([]byte, 256)
	for i := range b {
		b[i] = byte(i)
	}
	return string(b)
}

// edits returns the strings that differ from s in one byte that is missing,
// replaced or added, for every byte there is, and s.
func edits(s string) []string {
	all := allBytes()
	l := []string{s}
	for at := range len(s) + 1 {
		for i := range all {
			l = append(l, s[:at]+all[i:i+1]+s[at:])
			if at < len(s) {
				l = append(l, s[:at]+all[i:i+1]+s[at+1:])
			}
		}
		if at < len(s) {
			l = append(l, s[:at]+s[at+1:])
		}
	}
	return l
}

// words returns all strings of at most n bytes of the alphabet.
func words(alphabet string, n int) []string {
	l := []string{""}
	for first := 0; n > 0; n-- {
		last := len(l)
		for _, w := range l[first:last] {
			for i := range len(alphabet) {
				l = append(l, w+alphabet[i:i+1])
			}
		}
		first = last
	}
	return l
}

// lists returns all lists of at most n of the fields, also with one field several times.
func lists(fields []api.Field, n int) [][]api.Field {
	l := [][]api.Field{nil}
	for first := 0; n > 0; n-- {
		last := len(l)
		for _, x := range l[first:last] {
			for _, f := range fields {
				l = append(l, append(slices.Clone(x), f))
			}
		}
		first = last
	}
	return l
}

func random(r *rand.Rand, alphabet string, most int) string {
	b := make([]byte, r.Intn(most+1))
	for i := range b {
		b[i] = alphabet[r.Intn(len(alphabet))]
	}
	return string(b)
}

func randomToken(r *rand.Rand) string {
	return random(r, tokenBytes, 11) + tokenBytes[r.Intn(len(tokenBytes)):][:1]
}

func randomID(r *rand.Rand) string {
	b := []byte(anID)
	for i := range b {
		b[i] = idBytes[r.Intn(len(idBytes))]
	}
	return string(b)
}

func pick[E any](r *rand.Rand, l ...E) E { return l[r.Intn(len(l))] }

// randomCookies returns the value of a field Cookie: well made, nearly so, or arbitrary.
func randomCookies(r *rand.Rand) string {
	s := ""
	for range r.Intn(5) {
		name := pick(r, "a", "A", "b", "cohort", randomToken(r), random(r, allBytes(), 3), "")
		value := pick(r, "1", "", randomID(r), "\"x\"", "b=c", random(r, tokenBytes, 9), random(r, allBytes(), 5))
		s += name + pick(r, "=", "=", "=", "=", "==", " = ", "") + value + pick(r, "; ", "; ", ";", " ;\t", ",", ";;")
	}
	return s + random(r, " \t;=", 2)
}

func randomFields(r *rand.Rand) []api.Field {
	l := make([]api.Field, r.Intn(6))
	for i := range l {
		l[i] = api.Field{Name: pick(r, "Cookie", "cookie", pick(r, headers...), randomToken(r), random(r, allBytes(), 4)), Value: randomCookies(r)}
	}
	return l
}

// P14.1

func TestPairs(t *testing.T) {
	for _, x := range []struct {
		l    []api.Field
		want []api.Pair
	}{
		{nil, nil}, {[]api.Field{}, nil}, {of("Host", "a=1"), nil}, {of("Cookie", ""), nil},
		{of("Cookie", "a=1; b; c=x=y"), pairs("a", "1", "c", "x=y")},
		{of("Cookie", "a=1"), pairs("a", "1")}, {of("Cookie", "a="), pairs("a", "")}, {of("Cookie", "a"), nil},
		{of("Cookie", "="), nil}, {of("Cookie", "=1"), nil}, {of("Cookie", "=a=1"), nil}, {of("Cookie", ";"), nil}, {of("Cookie", " \t"), nil},
		{of("Cookie", "a=="), pairs("a", "=")}, {of("Cookie", "a==1"), pairs("a", "=1")}, {of("Cookie", "a=1=2=3"), pairs("a", "1=2=3")},
		{of("Cookie", ";a=1;"), pairs("a", "1")}, {of("Cookie", "; ;;a=1;;\t;b=2; "), pairs("a", "1", "b", "2")},

		// A part is trimmed, but what is beside its equals sign is not.
		{of("Cookie", "\t a=1 \t;\tb=2\t; c= "), pairs("a", "1", "b", "2", "c", "")},
		{of("Cookie", "a =1"), nil}, {of("Cookie", "a\t=1; b=2"), pairs("b", "2")},
		{of("Cookie", "a= 1"), pairs("a", " 1")}, {of("Cookie", "a=\t1 2 ;b= = "), pairs("a", "\t1 2", "b", " =")},
		{of("Cookie", "a=1\n"), pairs("a", "1\n")}, {of("Cookie", "\na=1"), nil}, {of("Cookie", "a=\r\n;b=\v"), pairs("a", "\r\n", "b", "\v")},
		{of("Cookie", "\u00a0a=1;b=\u00a0"), pairs("b", "\u00a0")},

		// The name is a token; the value can be anything.
		{of("Cookie", "a b=1"), nil}, {of("Cookie", "a,b=1;c=2"), pairs("c", "2")}, {of("Cookie", "\"a\"=1"), nil}, {of("Cookie", "\xff=1"), nil}, {of("Cookie", "a\x00=1"), nil},
		{of("Cookie", tokenBytes+"=1"), pairs(tokenBytes, "1")}, {of("Cookie", "$Version=1; $Path=/"), pairs("$Version", "1", "$Path", "/")},
		{of("Cookie", "a=\"q;r\"; b=2"), pairs("a", "\"q", "b", "2")}, {of("Cookie", "a=\"q\""), pairs("a", "\"q\"")}, {of("Cookie", "a=1,b=2"), pairs("a", "1,b=2")},
		{of("Cookie", "a=\xff\x00:/"), pairs("a", "\xff\x00:/")}, {of("Cookie", "a=%3B"), pairs("a", "%3B")},

		// All fields Cookie count, and cookies of one name are kept apart.
		{of("Cookie", "a=1", "Cookie", "b=2"), pairs("a", "1", "b", "2")},
		{of("COOKIE", "b=1; a=2", "X", "z=0", "cookie", "a=3;b=1", "Cookie", "A=4"), pairs("b", "1", "a", "2", "a", "3", "b", "1", "A", "4")},
		{of("Cookie", "a", "Cookie", "=1"), nil}, {of("Cookie", "a=", "Cookie", "1"), pairs("a", "")},
		{of("Set-Cookie", "a=1", "Cookie2", "a=2", "Cookie ", "a=3", "", "a=4", "Coo\u212aie", "a=5"), nil},
		{of("Connection", "Cookie", "Cookie", "a=1"), pairs("a", "1")},
	} {
		if got := cookie.Pairs(x.l); !slices.Equal(got, x.want) {
			t.Errorf("Pairs(%q) = %q, want %q", x.l, got, x.want)
		}
		check(t, x.l)
	}
}

func TestFind(t *testing.T) {
	l := of("cookie", "a=1; A=2; e=; b", "Host", "h=1", "Cookie", "a=3;c=4;d==5; =6; f g=7", "COOKIE", "c=8; e=9")
	for _, x := range []struct {
		name, value string
		found       bool
	}{
		{"a", "1", true}, {"A", "2", true}, {"c", "4", true}, {"d", "=5", true}, {"e", "", true},
		{"b", "", false}, {"h", "", false}, {"C", "", false}, {"E", "", false}, {"", "", false}, {"f g", "", false}, {"g", "", false}, {"f", "", false},
		{"a ", "", false}, {" a", "", false}, {"a=", "", false}, {"a=1", "", false}, {"aa", "", false}, {"d=", "", false}, {"1", "", false}, {"\x00", "", false}, {"\xe1", "", false},
	} {
		if value, found := cookie.Find(l, x.name); value != x.value || found != x.found {
			t.Errorf("Find(%q) = %q, %v, want %q, %v", x.name, value, found, x.value, x.found)
		}
	}
	for _, x := range edits("ab") {
		check(t, of("Cookie", "a=1;ab=2;AB=3;aB=4;b=5; ab=6"), x)
		check(t, of("Cookie", x+"=1; ab=2", "Cookie", "AB=3;"+x+"=4"), x, "ab")
	}
}

// All names of fields that differ from Cookie in a byte, or in the cases of letters.
func TestHeaders(t *testing.T) {
	for _, x := range slices.Concat(headers, edits("Cookie"), edits("cOOKIE"), edits("Set-Cookie")) {
		check(t, of(x, "a=1; b=2"))
		check(t, of("Cookie", "b=0", x, "a=1; b=2", "cookie", "a=3"))
	}
	for bits := range 1 << 6 {
		b := []byte("cookie")
		for i := range b {
			b[i] ^= byte(bits >> i & 1 << 5)
		}
		if got := cookie.Pairs(of(string(b), "a=1")); !slices.Equal(got, pairs("a", "1")) {
			t.Errorf("%q gives %q", b, got)
		}
	}
}

// All values that differ from one that matters in a byte.
func TestValues(t *testing.T) {
	for _, s := range []string{"a=1", "a=1; b; c=x=y", " a=\t1 \t;b =2;=", "cohort=" + anID} {
		for _, x := range edits(s) {
			check(t, of("Cookie", x), "cohort", "c")
			check(t, of("Host", x, "cookie", "b=0;a", "COOKIE", x, "Cookie", s), "cohort", "c")
		}
	}
}

// All short values of the bytes of which cookies are made, and of some that are like them.
func TestShortValues(t *testing.T) {
	for _, s := range slices.Concat(words("a=; ", 7), words("aB=; \t,", 4), words("=;\n\x00\xff\"", 4)) {
		l := of("Cookie", s)
		if got, want := cookie.Pairs(l), wantPairs(l); !slices.Equal(got, want) {
			t.Fatalf("Pairs(%q) = %q, want %q", l, got, want)
		}
	}
}

// Each byte counts, in a name, in a value and beside a part.
func TestAllBytes(t *testing.T) {
	for i := range 256 {
		c := string([]byte{byte(i)})
		for _, s := range []string{
			c, c + "=1", "a=" + c, c + "a=1", "a" + c + "=1", "a" + c + "b=1", "a=1" + c, "a=1" + c + "2", "a=" + c + "1",
			"b=2;" + c + "a=1", "b=2" + c + ";a=1", "b=2" + c + "a=1", " " + c + " a=1 " + c + " ", c + c + "=" + c + c,
		} {
			check(t, of("Cookie", s), c, c+"a", "a"+c, "a"+c+"b")
		}
	}
}

// All lists of a few fields, in every order.
func TestLists(t *testing.T) {
	fields := of("Cookie", "a=1", "cookie", "b=2; a=3", "COOKIE", "", "Cookie", " ; A=4;a ", "Cookie", "c", "Cookies", "a=5", "Host", "b=6", "Set-Cookie", "a=7; Path=/")
	for _, l := range lists(fields, 4) {
		check(t, l)
	}
}

func TestArbitraryFields(t *testing.T) {
	r := rand.New(rand.NewSource(1))
	some, sent := 0, 0
	for range 20000 {
		l := randomFields(r)
		check(t, l, randomToken(r), random(r, allBytes(), 3))
		if len(wantPairs(l)) > 1 {
			some++
		}
		if canBeSent(l) {
			sent++
		}
	}
	if some < 5000 || sent < 2000 || sent > 18000 {
		t.Errorf("only %d lists have cookies, or %d can be sent", some, sent)
	}
}

// P14.2

func TestID(t *testing.T) {
	for s, want := range map[string]bool{
		anID: true, "0000000000000000": true, "ffffffffffffffff": true, "9999999999999999": true, "aaaaaaaaaaaaaaaa": true, "fedcba9876543210": true, "00000000000000f0": true,
		"": false, "0": false, "0123456789abcde": false, "0123456789abcdef0": false, anID + anID: false,
		"0123456789ABCDEF": false, "0123456789abcdeF": false, "A123456789abcdef": false, "0123456789abcdeg": false, "g123456789abcdef": false,
		" 0123456789abcdef": false, "0123456789abcdef ": false, " 123456789abcdef": false, "0123456789abcde ": false, "0123456 789abcde": false,
		"0x23456789abcdef": false, "-123456789abcdef": false, "+123456789abcdef": false, "01234567.9abcdef": false, "0123456789abcde\x00": false, "0123456789abcdef\n": false, "0123456789abcde\n": false,
		"\xff123456789abcdef": false, "0123456789abcd\u00e9": false, strings.Repeat("\u0660", 16): false, strings.Repeat("\u0660", 8): false, strings.Repeat("\uff10", 16): false, strings.Repeat("\u00e9", 8): false,
		"                ": false, strings.Repeat("\x00", 16): false, strings.Repeat("g", 16): false, strings.Repeat(":", 16): false, strings.Repeat("/", 16): false, strings.Repeat("`", 16): false,
	} {
		if got := cookie.ID(s); got != want {
			t.Errorf("ID(%q) = %v", s, got)
		}
		checkID(t, "c", s)
	}
}

// All strings that differ from an ID in a byte, each byte at each place, and each number of digits.
func TestIDsOfAllBytes(t *testing.T) {
	for _, s := range []string{anID, "ffffffffffffffff", "0000000000000000", "deadbeefcafe0123"} {
		for _, x := range edits(s) {
			checkID(t, "a", x)
		}
	}
	for i := range 256 {
		checkID(t, "a", strings.Repeat(string([]byte{byte(i)}), 16))
	}
	for n := range 300 {
		checkID(t, "a", strings.Repeat("7", n))
		checkID(t, "a", strings.Repeat("x", n))
	}
}

func TestIssue(t *testing.T) {
	for _, x := range []struct{ name, id, want string }{
		{"cohort", anID, "cohort=0123456789abcdef; Path=/; HttpOnly"}, {"c", "1", "c=1; Path=/; HttpOnly"},
		{"", "", "=; Path=/; HttpOnly"}, {"a", "", "a=; Path=/; HttpOnly"}, {"", "1", "=1; Path=/; HttpOnly"},
		{" A b=", ";\n", " A b==;\n; Path=/; HttpOnly"}, {"\xff", "\x00", "\xff=\x00; Path=/; HttpOnly"}, {"%s", "%d", "%s=%d; Path=/; HttpOnly"},
	} {
		if got, want := cookie.Issue(x.name, x.id), (api.Field{Name: "Set-Cookie", Value: x.want}); got != want {
			t.Errorf("Issue(%q, %q) = %q, want %q", x.name, x.id, got, want)
		}
	}
	for _, x := range slices.Concat(edits(""), edits("ab"), headers, others) {
		checkID(t, x, anID)
		checkID(t, "cohort", x)
		checkID(t, x, x)
	}
}

func TestArbitraryIDs(t *testing.T) {
	r := rand.New(rand.NewSource(2))
	for range 20000 {
		id := pick(r, randomID(r), randomID(r)+random(r, idBytes, 1), random(r, idBytes, 16), random(r, allBytes(), 20), strings.ToUpper(randomID(r)))
		checkID(t, pick(r, randomToken(r), random(r, allBytes(), 9)), id)
	}
}

// P14.3

// Every token and every ID, and each byte of them, is found again.
func TestKept(t *testing.T) {
	for i := range len(tokenBytes) {
		c := tokenBytes[i : i+1]
		for _, name := range []string{c, c + "a", "a" + c, "a" + c + "b", c + c + c, "Path" + c} {
			checkKept(t, name, anID)
		}
	}
	for _, name := range []string{tokenBytes, "cohort", "Cookie", "Path", "HttpOnly", "$Version", "Host"} {
		for i := range len(idBytes) {
			for at := range len(anID) {
				checkKept(t, name, anID[:at]+idBytes[i:i+1]+anID[at+1:])
			}
			checkKept(t, name, strings.Repeat(idBytes[i:i+1], 16))
		}
	}
	r := rand.New(rand.NewSource(3))
	for range 20000 {
		checkKept(t, randomToken(r), randomID(r))
	}
}

// returned is what a client sends back for a field Set-Cookie: the cookie without its attributes.
func returned(f api.Field) string {
	s, _, _ := strings.Cut(f.Value, ";")
	return s
}

// A cookie that a response can carry comes back in a request, whatever other cookies and fields
// that can be sent are behind it, and the server finds in what is forwarded what the proxy found.
func TestKeptInMessages(t *testing.T) {
	r := rand.New(rand.NewSource(4))
	withOthers := 0
	for range 20000 {
		name, id := randomToken(r), randomID(r)
		a := writer.Text(200, "", cookie.Issue(name, id))
		answer, e := head.ParseReply(writer.Reply(a))
		if e != api.OK || !slices.Equal(answer.Fields, a.Fields) {
			t.Fatalf("%q is read as %q, %d", a.Fields, answer.Fields, e)
		}
		more := randomFields(r)
		if r.Intn(2) == 0 {
			more = slices.DeleteFunc(more, func(f api.Field) bool { return !canBeSent([]api.Field{f}) })
		}
		l := slices.Concat(of("Host", "a", "Cookie", returned(answer.Fields[2])), more)
		sent, e := head.ParseRequest(head.FormatRequest(api.Request{Method: "GET", Target: "/", Minor: 1, Fields: l}))
		if want := canBeSent(l) && !slices.ContainsFunc(more, isHost); (e == api.OK) != want {
			t.Fatalf("%q can be sent: %v", l, !want)
		}
		if e != api.OK {
			continue
		}
		if len(wantPairs(more)) > 0 {
			withOthers++
		}
		check(t, sent.Fields, name)
		for _, fields := range [][]api.Field{sent.Fields, hop.Forward(sent, "7").Fields} {
			if got, found := cookie.Find(fields, name); got != id || !found {
				t.Fatalf("Find(%q, %q) = %q, %v, want %q", fields, name, got, found, id)
			}
			if got, want := cookie.Pairs(fields), wantPairs(l); !slices.Equal(got, want) {
				t.Fatalf("%q has the cookies %q, want %q", fields, got, want)
			}
		}
	}
	if withOthers < 1000 {
		t.Errorf("only %d messages have other cookies", withOthers)
	}
}

func isHost(f api.Field) bool { return strings.EqualFold(f.Name, "Host") }

// The general rules.

// overwrite changes all cookies of l, and those in the memory behind it that belongs to it.
func overwrite(l []api.Pair) {
	l = l[:cap(l)]
	for i := range l {
		l[i] = api.Pair{Name: "overwritten", Value: "overwritten"}
	}
}

// R2: the cookies can be changed, and neither the fields nor another result is; nor
// is the memory behind the fields, which belongs to their owner.
func TestResultsShareNothing(t *testing.T) {
	whole := of("Cookie", "a=1; b=2", "Host", "a", "cookie", "c=3;d=4;e=5", "Cookie", "f=6", "X", "g=7")
	for n := range len(whole) + 1 {
		l := slices.Clone(whole)
		want := wantPairs(whole[:n])
		overwrite(cookie.Pairs(l[:n]))
		cookie.Find(l[:n], "z")
		if !slices.Equal(l, whole) {
			t.Errorf("the fields are changed to %q", l)
		}
		got, other := cookie.Pairs(l[:n]), cookie.Pairs(l[:n])
		overwrite(other)
		for i := range l {
			l[i] = api.Field{Name: "Cookie", Value: "overwritten=1"}
		}
		if !slices.Equal(got, want) {
			t.Errorf("%q, want %q", got, want)
		}
	}
}

// R5: no fields are the same as nil and as none of a list.
func TestNone(t *testing.T) {
	for _, l := range [][]api.Field{nil, {}, of("Cookie", "a=1")[:0]} {
		if got := cookie.Pairs(l); len(got) > 0 {
			t.Errorf("no fields have the cookies %q", got)
		}
		for _, name := range others {
			if value, found := cookie.Find(l, name); value != "" || found {
				t.Errorf("Find(%q) in no fields is %q, %v", name, value, found)
			}
		}
	}
}

// Many fields, many cookies and long names and values are treated as few and short ones are.
func TestGreat(t *testing.T) {
	var all []api.Pair
	var parts []string
	for i := range 20000 {
		p := pairs(fmt.Sprint("n", i), fmt.Sprint(i, "="))[0]
		all = append(all, p)
		parts = append(parts, p.Name+"="+p.Value)
	}
	value := strings.Join(parts, "; ")
	if got := cookie.Pairs(of("Cookie", value)); !slices.Equal(got, all) {
		t.Errorf("%d of %d cookies are found", len(got), len(all))
	}
	if got, found := cookie.Find(of("Cookie", value), "n19999"); got != "19999=" || !found {
		t.Errorf("the last of many cookies is %q, %v", got, found)
	}
	var fields []api.Field
	for _, part := range parts {
		fields = append(fields, of("Cookie", part, "X", part)...)
	}
	if got := cookie.Pairs(fields); !slices.Equal(got, all) {
		t.Errorf("%d of %d cookies are found in fields of their own", len(got), len(all))
	}
	long := strings.Repeat("x", 100000)
	for _, s := range []string{long, long + "=1", "a=" + long, strings.Repeat(";", 100000), strings.Repeat(" ", 100000) + "a=1", strings.Repeat("=", 100000), "a" + strings.Repeat("=", 100000), strings.Repeat("a=;", 50000)} {
		check(t, of("Cookie", s), long)
	}
	checkID(t, long, long)
	checkID(t, long, strings.Repeat("0", 100000))
}
