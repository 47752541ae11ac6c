package startline_test

import (
	"fmt"
	"math"
	"math/rand"
	"regexp"
	"slices"
	"strings"
	"testing"

	"canary/api"
	"canary/startline"
)

// Each promise is checked on named cases, on every line that differs from a good
// one in a single byte, on lines of good and bad parts, and on arbitrary bytes and
// numbers, against an oracle of regular expressions that calls no other layer.

const (
	letters     = "ABCDEFGHIJKLMNOPQRSTUVWXYZabcdefghijklmnopqrstuvwxyz"
	digits      = "0123456789"
	tokenBytes  = letters + digits + "!#$%&'*+-.^_`|~"
	targetBytes = letters + digits + "!\"$%&'()*+,-./:;<=>?@[\\]^_`{|}~"
)

// edges are the bytes at the borders of the classes, and those of which lines are made.
const edges = "\x00\x08\t\n\r\x1f !\"#$./019:?@AHZ[`az{~\x7f\x80\xff"

var (
	methodForm  = regexp.MustCompile("^[A-Za-z0-9!#$%&'*+.^_`|~-]+$")
	targetForm  = regexp.MustCompile(`^/[!"$-~]*$`)
	versionForm = regexp.MustCompile(`^HTTP/[0-9]\.[0-9]$`)
	statusForm  = regexp.MustCompile(`^(HTTP/1\.[01]) ([1-5][0-9][0-9])(?: ([\t -~\x80-\xff]*))?$`)
	reasonForm  = regexp.MustCompile(`^[\t -~\x80-\xff]*$`)
)

// minors has the versions that have a Minor.
var minors = map[string]int{"HTTP/1.0": 0, "HTTP/1.1": 1}

// wide returns a string with a rune for each byte of s, so that the expressions speak of bytes.
func wide(s string) string {
	runes := make([]rune, len(s))
	for i := range len(s) {
		runes[i] = rune(s[i])
	}
	return string(runes)
}

func wantParseRequest(s string) (api.Request, api.Errno) {
	words := strings.Split(s, " ")
	if len(words) != 3 || !methodForm.MatchString(wide(words[0])) || !targetForm.MatchString(wide(words[1])) {
		return api.Request{}, api.ErrSyntax
	}
	if minor, ok := minors[words[2]]; ok {
		return api.Request{Method: words[0], Target: words[1], Minor: minor}, api.OK
	}
	if versionForm.MatchString(wide(words[2])) {
		return api.Request{}, api.ErrUnknown
	}
	return api.Request{}, api.ErrSyntax
}

func wantFormatRequest(r api.Request) string {
	for version, minor := range minors {
		if minor == r.Minor && methodForm.MatchString(wide(r.Method)) && targetForm.MatchString(wide(r.Target)) {
			return strings.Join([]string{r.Method, r.Target, version}, " ")
		}
	}
	return ""
}

func wantParseStatus(s string) (api.Reply, api.Errno) {
	m := statusForm.FindStringSubmatch(wide(s))
	if m == nil {
		return api.Reply{}, api.ErrSyntax
	}
	a := api.Reply{Minor: minors[m[1]]}
	fmt.Sscan(m[2], &a.Status)
	if len(s) > len("HTTP/1.1 200") {
		a.Reason = s[len("HTTP/1.1 200 "):]
	}
	return a, api.OK
}

func wantFormatStatus(a api.Reply) string {
	for version, minor := range minors {
		if minor == a.Minor && a.Status >= 100 && a.Status < 600 && reasonForm.MatchString(wide(a.Reason)) {
			return fmt.Sprintf("%s %d %s", version, a.Status, a.Reason)
		}
	}
	return ""
}

func sameRequest(a, b api.Request) bool {
	return a.Method == b.Method && a.Target == b.Target && a.Minor == b.Minor && a.Framed == b.Framed &&
		slices.Equal(a.Fields, b.Fields) && slices.Equal(a.Body, b.Body)
}

func sameReply(a, b api.Reply) bool {
	return a.Status == b.Status && a.Reason == b.Reason && a.Minor == b.Minor &&
		slices.Equal(a.Fields, b.Fields) && slices.Equal(a.Body, b.Body)
}

// checkLine compares both parsers with the oracle, and what they return with the
// line that it came from; it does so twice, since nothing is kept from call to call.
func checkLine(t *testing.T, s string) {
	t.Helper()
	for range 2 {
		r, e := startline.ParseRequest(s)
		if want, wantE := wantParseRequest(s); !sameRequest(r, want) || e != wantE {
			t.Fatalf("ParseRequest(%q) = %v, %d, want %v, %d", s, r, e, want, wantE)
		}
		if line := startline.FormatRequest(r); e == api.OK && line != s {
			t.Fatalf("%q is read as %v and written %q", s, r, line)
		}
		a, e := startline.ParseStatus(s)
		if want, wantE := wantParseStatus(s); !sameReply(a, want) || e != wantE {
			t.Fatalf("ParseStatus(%q) = %v, %d, want %v, %d", s, a, e, want, wantE)
		}
		if line := startline.FormatStatus(a); e == api.OK && line != s && line != s+" " {
			t.Fatalf("%q is read as %v and written %q", s, a, line)
		}
	}
}

// checkRequest compares FormatRequest with the oracle, and reads the line again (P7.4).
func checkRequest(t *testing.T, r api.Request) {
	t.Helper()
	line, want := startline.FormatRequest(r), wantFormatRequest(r)
	if line != want || line != startline.FormatRequest(r) {
		t.Fatalf("FormatRequest(%v) = %q, want %q", r, line, want)
	}
	if line == "" {
		return
	}
	again, e := startline.ParseRequest(line)
	if !sameRequest(again, api.Request{Method: r.Method, Target: r.Target, Minor: r.Minor}) || e != api.OK {
		t.Fatalf("%v is written %q and read as %v, %d", r, line, again, e)
	}
}

// checkReply compares FormatStatus with the oracle, and reads the line again (P7.4).
func checkReply(t *testing.T, a api.Reply) {
	t.Helper()
	line, want := startline.FormatStatus(a), wantFormatStatus(a)
	if line != want || line != startline.FormatStatus(a) {
		t.Fatalf("FormatStatus(%v) = %q, want %q", a, line, want)
	}
	if line == "" {
		return
	}
	again, e := startline.ParseStatus(line)
	if !sameReply(again, api.Reply{Status: a.Status, Reason: a.Reason, Minor: a.Minor}) || e != api.OK {
		t.Fatalf("%v is written %q and read as %v, %d", a, line, again, e)
	}
}

func checkTarget(t *testing.T, s string) {
	t.Helper()
	if got, want := startline.Target(s), targetForm.MatchString(wide(s)); got != want {
		t.Fatalf("Target(%q) = %v", s, got)
	}
	path, query := startline.Split(s)
	at := strings.IndexByte(s, '?')
	if at < 0 && (path != s || query != "") || at >= 0 && (path != s[:at] || query != s[at+1:]) {
		t.Fatalf("Split(%q) = %q, %q", s, path, query)
	}
}

func allBytes() string {
	b := make([]byte, 256)
	for i := range b {
		b[i] = byte(i)
	}
	return string(b)
}

// reasonBytes returns the bytes that may stand in a reason.
func reasonBytes() string {
	all := allBytes()
	return all[9:10] + all[32:127] + all[128:]
}

// words returns all strings of at most n bytes of the alphabet.
func words(alphabet string, n int) []string {
	l := []string{""}
	for first := 0; n > 0; n-- {
		last := len(l)
		for _, w := range l[first:last] {
			for i := range len(alphabet) {
				l = append(l, w+alphabet[i:i+1])
			}
		}
		first = last
	}
	return l
}

func random(r *rand.Rand, alphabet string, most int) string {
	b := make([]byte, r.Intn(most+1))
	for i := range b {
		b[i] = alphabet[r.Intn(len(alphabet))]
	}
	return string(b)
}

// edits returns the strings that differ from s in one byte that is missing,
// replaced or added, for every byte there is.
func edits(s string) []string {
	all := allBytes()
	var l []string
	for at := range len(s) + 1 {
		for i := range all {
			l = append(l, s[:at]+all[i:i+1]+s[at:])
			if at < len(s) {
				l = append(l, s[:at]+all[i:i+1]+s[at+1:])
			}
		}
		if at < len(s) {
			l = append(l, s[:at]+s[at+1:])
		}
	}
	return l
}

// randomNumber returns one that is mostly near a border, or any.
func randomNumber(r *rand.Rand) int {
	switch r.Intn(5) {
	case 0:
		return int(r.Uint64())
	case 1:
		return r.Intn(1200) - 100
	case 2:
		return 100 + r.Intn(500)
	}
	return r.Intn(2)
}

// P7.1

func TestTarget(t *testing.T) {
	for _, x := range []struct {
		s    string
		want bool
	}{
		{"/", true}, {"//", true}, {"/a?b", true}, {"/a?b?c", true}, {"/?", true}, {"/!~", true}, {"/%20", true}, {"/*", true},
		{"/" + targetBytes, true}, {"/a/../b;c=\"d\"<>[]{}|\\^`", true},
		{"", false}, {"a", false}, {"*", false}, {"?", false}, {"a/", false}, {"?/", false}, {" /", false}, {"\\", false},
		{"http://a/", false}, {"a:80", false}, {"./a", false},
		{"#", false}, {"/#", false}, {"/a#b", false}, {"/a?b#c", false}, {"/a?#", false},
		{"/a b", false}, {"/ ", false}, {"/\t", false}, {"/a\r\n", false}, {"/\n", false}, {"/\x00", false}, {"/a\x1f", false},
		{"/\x7f", false}, {"/\x80", false}, {"/a\xff", false}, {"/\u00e4", false}, {"/a\u2003b", false}, {"/\ufffd", false}, {"\u2215", false},
	} {
		if startline.Target(x.s) != x.want {
			t.Errorf("Target(%q) is not %v", x.s, x.want)
		}
	}
}

func TestSplit(t *testing.T) {
	for _, x := range []struct{ s, path, query string }{
		{"/a?b", "/a", "b"}, {"/a", "/a", ""}, {"/a?", "/a", ""}, {"/a?b?c", "/a", "b?c"}, {"/??", "/", "?"}, {"/?/", "/", "/"},
		{"/a/b?c=d&e=f", "/a/b", "c=d&e=f"}, {"/", "/", ""},
		{"", "", ""}, {"?", "", ""}, {"?b", "", "b"}, {"a b#c?\x00\xff", "a b#c", "\x00\xff"}, {"\xff", "\xff", ""}, {"/a\uff1fb", "/a\uff1fb", ""},
	} {
		if path, query := startline.Split(x.s); path != x.path || query != x.query {
			t.Errorf("Split(%q) = %q, %q, want %q, %q", x.s, path, query, x.path, x.query)
		}
	}
}

func TestTargetsArbitrary(t *testing.T) {
	for _, s := range []string{"/", "/a?b", "/?", "?", "", "/\u00e4"} {
		for _, x := range edits(s) {
			checkTarget(t, x)
		}
	}
	for _, s := range words("/?#a \x80", 6) {
		checkTarget(t, s)
	}
	for _, s := range words(edges, 2) {
		checkTarget(t, s)
		checkTarget(t, "/"+s)
		checkTarget(t, "/"+s+"a")
	}
	r := rand.New(rand.NewSource(1))
	for range 20000 {
		checkTarget(t, "/"+random(r, targetBytes, 40))
		checkTarget(t, "/"+random(r, targetBytes, 20)+random(r, edges, 2)+random(r, targetBytes, 20))
		checkTarget(t, random(r, allBytes(), 20))
		checkTarget(t, random(r, targetBytes, 20))
	}
}

// P7.2

func TestParseRequest(t *testing.T) {
	for _, x := range []struct {
		s, method, target string
		minor             int
	}{
		{"GET /a?b HTTP/1.1", "GET", "/a?b", 1}, {"GET / HTTP/1.0", "GET", "/", 0}, {"POST /a HTTP/1.1", "POST", "/a", 1},
		{"get / HTTP/1.1", "get", "/", 1}, {"a / HTTP/1.1", "a", "/", 1}, {"a-b / HTTP/1.0", "a-b", "/", 0}, {"HTTP / HTTP/1.1", "HTTP", "/", 1},
		{tokenBytes + " /" + targetBytes + " HTTP/1.1", tokenBytes, "/" + targetBytes, 1},
	} {
		want := api.Request{Method: x.method, Target: x.target, Minor: x.minor}
		if got, e := startline.ParseRequest(x.s); !sameRequest(got, want) || e != api.OK {
			t.Errorf("ParseRequest(%q) = %v, %d, want %v", x.s, got, e, want)
		}
	}
}

func TestParseRequestErrors(t *testing.T) {
	for want, lines := range map[api.Errno][]string{
		api.ErrUnknown: {
			"GET / HTTP/2.0", "GET / HTTP/1.2", "GET / HTTP/1.9", "GET / HTTP/0.0", "GET / HTTP/0.1", "GET / HTTP/0.9", "GET / HTTP/2.1",
			"GET / HTTP/3.0", "GET / HTTP/9.9", "a /? HTTP/9.9",
		},
		api.ErrSyntax: {
			"", " ", "  ", "   ", "GET", "GET /", "GET / ", "GET  HTTP/1.1", "/ HTTP/1.1", " / HTTP/1.1",
			" GET / HTTP/1.1", "GET / HTTP/1.1 ", "GET  / HTTP/1.1", "GET /  HTTP/1.1", "GET / a HTTP/1.1", "GET /a b HTTP/1.1", "GET / HTTP/1.1 HTTP/1.1",
			"GET\t/ HTTP/1.1", "GET /\tHTTP/1.1", "GET / HTTP/1.1\r\n", "GET / HTTP/1.1\n", "GET / HTTP/1.1\r", "\r\nGET / HTTP/1.1",
			"G:T / HTTP/1.1", "G\x00T / HTTP/1.1", "\x80 / HTTP/1.1", "GET, / HTTP/1.1", "G/T / HTTP/1.1", "\u00e4 / HTTP/1.1",
			"GET a HTTP/1.1", "GET * HTTP/1.1", "OPTIONS * HTTP/1.1", "CONNECT a:80 HTTP/1.1", "GET http://a/ HTTP/1.1", "GET /# HTTP/1.1", "GET /\x7f HTTP/1.1", "GET /\x80 HTTP/1.1",
			"GET / http/1.1", "GET / Http/1.1", "GET / HTTP/1", "GET / HTTP/1.", "GET / HTTP/.1", "GET / HTTP/1.10", "GET / HTTP/11.1", "GET / HTTP/01.1", "GET / HTTP/1.1.1",
			"GET / HTTP/1,1", "GET / HTTP/1:1", "GET / HTTP/x.1", "GET / HTTP/1.x", "GET / HTTP/-.1", "GET / HTTP/1.-", "GET / HTTP 1.1", "GET / HTTP1.1", "GET / HTTPS/1.1", "GET / 1.1",
			"GET / HTTP//.0", "GET / HTTP/:.0", "GET / HTTP/0./", "GET / HTTP/0.:", "GET / HTTP/\xb1.1", "GET / HTTP/1.\u0661", "GET / HTTP/1\u00b71", "GET / FTP/1.1", "GET / HTTP/",
		},
	} {
		for _, s := range lines {
			if got, e := startline.ParseRequest(s); !sameRequest(got, api.Request{}) || e != want {
				t.Errorf("ParseRequest(%q) = %v, %d, want error %d", s, got, e, want)
			}
		}
	}
}

// A bad method or target comes before the version that is not known.
func TestParseRequestOrder(t *testing.T) {
	for _, s := range []string{
		"G:T / HTTP/2.0", " / HTTP/2.0", "GET a HTTP/2.0", "GET /# HTTP/2.0", "GET  HTTP/2.0", "GET HTTP/2.0", "HTTP/2.0", "GET  / HTTP/2.0", "GET / HTTP/2.0 ", "GET / a HTTP/2.0", " GET / HTTP/2.0",
		"GET / HTTP/2.0\r\n", "GET / HTTP/2.0 x", "GET HTTP/2.0 /", "HTTP/2.0 / GET",
	} {
		if got, e := startline.ParseRequest(s); !sameRequest(got, api.Request{}) || e != api.ErrSyntax {
			t.Errorf("ParseRequest(%q) = %v, %d", s, got, e)
		}
	}
}

// All versions of a digit or another byte, a byte, and a digit or another byte.
func TestVersions(t *testing.T) {
	all := allBytes()
	for i := range all {
		for j := range all {
			version := "HTTP/" + all[i:i+1] + "." + all[j:j+1]
			checkLine(t, "GET / "+version)
			checkLine(t, version+" 200 OK")
		}
	}
}

func TestFormatRequest(t *testing.T) {
	for _, x := range []struct {
		method, target string
		minor          int
		want           string
	}{
		{"GET", "/a?b", 1, "GET /a?b HTTP/1.1"}, {"GET", "/", 0, "GET / HTTP/1.0"}, {"a-b", "/!~", 1, "a-b /!~ HTTP/1.1"},
		{"", "", 0, ""}, {"", "/", 1, ""}, {"GET", "", 1, ""},
		{"G T", "/", 1, ""}, {"G:T", "/", 1, ""}, {" GET", "/", 1, ""}, {"GET ", "/", 1, ""}, {"GET\r\n", "/", 1, ""}, {"\x80", "/", 1, ""}, {"G\xc3\xa4", "/", 1, ""},
		{"GET", "a", 1, ""}, {"GET", "*", 1, ""}, {"GET", "/ ", 1, ""}, {"GET", "/a b", 1, ""}, {"GET", "/#", 1, ""}, {"GET", "/\r\n", 1, ""}, {"GET", "/\x7f", 1, ""}, {"GET", "/\x80", 1, ""},
		{"GET", "/", 2, ""}, {"GET", "/", -1, ""}, {"GET", "/", 10, ""}, {"GET", "/", 256, ""}, {"GET", "/", 1 << 32, ""}, {"GET", "/", 1<<32 + 1, ""},
		{"GET", "/", math.MaxInt, ""}, {"GET", "/", math.MinInt, ""}, {"GET", "/", math.MinInt + 1, ""},
	} {
		r := api.Request{Method: x.method, Target: x.target, Minor: x.minor}
		if got := startline.FormatRequest(r); got != x.want {
			t.Errorf("FormatRequest(%v) = %q, want %q", r, got, x.want)
		}
	}
}

// P7.3

func TestParseStatus(t *testing.T) {
	for _, x := range []struct {
		s, reason     string
		status, minor int
	}{
		{"HTTP/1.1 200 OK", "OK", 200, 1}, {"HTTP/1.0 404 Not Found", "Not Found", 404, 0}, {"HTTP/1.1 100 Continue", "Continue", 100, 1}, {"HTTP/1.1 599 a", "a", 599, 1},
		{"HTTP/1.1 204", "", 204, 1}, {"HTTP/1.1 204 ", "", 204, 1}, {"HTTP/1.0 204", "", 204, 0}, {"HTTP/1.0 204 ", "", 204, 0},
		{"HTTP/1.1 204  ", " ", 204, 1}, {"HTTP/1.1 204 \t", "\t", 204, 1}, {"HTTP/1.1 200  a  b \t", " a  b \t", 200, 1}, {"HTTP/1.1 200 \ta", "\ta", 200, 1},
		{"HTTP/1.1 200 200 OK", "200 OK", 200, 1}, {"HTTP/1.1 200 HTTP/1.1 200 OK", "HTTP/1.1 200 OK", 200, 1}, {"HTTP/1.1 200 :", ":", 200, 1},
		{"HTTP/1.1 200 \x80", "\x80", 200, 1}, {"HTTP/1.1 200 a\xff", "a\xff", 200, 1}, {"HTTP/1.1 200 \u00e4\u2003", "\u00e4\u2003", 200, 1},
		{"HTTP/1.1 200 " + reasonBytes(), reasonBytes(), 200, 1},
	} {
		want := api.Reply{Status: x.status, Reason: x.reason, Minor: x.minor}
		if got, e := startline.ParseStatus(x.s); !sameReply(got, want) || e != api.OK {
			t.Errorf("ParseStatus(%q) = %v, %d, want %v", x.s, got, e, want)
		}
	}
}

func TestParseStatusErrors(t *testing.T) {
	for _, s := range []string{
		"", " ", "HTTP/1.1", "HTTP/1.1 ", "HTTP/1.1  ", "HTTP/1.1 2", "HTTP/1.1 20", "HTTP/1.1 2000", "HTTP/1.1 0200", "HTTP/1.1 20 OK", "HTTP/1.1 2000 OK", "HTTP/1.1 20  OK",
		"HTTP/1.1 200OK", "HTTP/1.1 200\tOK", "HTTP/1.1 200:", "HTTP/1.1  200", "HTTP/1.1  200 OK", "HTTP/1.1\t200 OK", "HTTP/1.1200 OK", " HTTP/1.1 200 OK", "200 OK", "OK",
		"HTTP/1.1 000 a", "HTTP/1.1 001 a", "HTTP/1.1 099 a", "HTTP/1.1 600 a", "HTTP/1.1 601", "HTTP/1.1 700", "HTTP/1.1 999", "HTTP/1.1 1e2 a", "HTTP/1.1 +20 a", "HTTP/1.1 -20 a", "HTTP/1.1 -200 a",
		"HTTP/1.1 2x0 a", "HTTP/1.1 x00 a", "HTTP/1.1 20x a", "HTTP/1.1 2.0 a", "HTTP/1.1 \u00b200", "HTTP/1.1 \u0662", "HTTP/1.1 0x1",
		"HTTP/2.0 200 OK", "HTTP/1.2 200 OK", "HTTP/0.9 200 OK", "HTTP/9.9 200", "http/1.1 200 OK", "HTTP/1 200 OK", "HTTP/1.10 200 OK", "HTTP/1,1 200 OK", "HTTP/x.1 200 OK", "HTTP/01.1 200 OK", "HTTPS/1.1 200 OK",
		"HTTP/1.1 200 \x00", "HTTP/1.1 200 a\x08", "HTTP/1.1 200 a\x0ab", "HTTP/1.1 200 \x1f", "HTTP/1.1 200 \x7f", "HTTP/1.1 200 \u00e4\x7f", "HTTP/1.1 200 OK\r\n", "HTTP/1.1 200 OK\r", "HTTP/1.1 200 OK\n",
		"HTTP/1.1 200\r\n", "HTTP/1.1 200\r", "HTTP/1.1 200 \r\n", "\r\nHTTP/1.1 200 OK", "GET / HTTP/1.1",
	} {
		if got, e := startline.ParseStatus(s); !sameReply(got, api.Reply{}) || e != api.ErrSyntax {
			t.Errorf("ParseStatus(%q) = %v, %d", s, got, e)
		}
	}
}

// All numbers of at most four digits, with and without a reason.
func TestStatuses(t *testing.T) {
	for n := range 10000 {
		for _, form := range []string{"%d", "%03d", "%04d"} {
			code := fmt.Sprintf(form, n)
			for _, end := range []string{"", " ", " OK", "OK"} {
				checkLine(t, "HTTP/1.1 "+code+end)
				checkLine(t, "HTTP/1.0 "+code+end)
			}
		}
	}
}

func TestFormatStatus(t *testing.T) {
	for _, x := range []struct {
		status int
		reason string
		minor  int
		want   string
	}{
		{200, "OK", 1, "HTTP/1.1 200 OK"}, {404, "Not Found", 0, "HTTP/1.0 404 Not Found"}, {204, "", 1, "HTTP/1.1 204 "}, {204, "", 0, "HTTP/1.0 204 "},
		{100, "a", 1, "HTTP/1.1 100 a"}, {599, "a", 1, "HTTP/1.1 599 a"}, {200, " a\t", 1, "HTTP/1.1 200  a\t"}, {200, "\x80\xff", 1, "HTTP/1.1 200 \x80\xff"},
		{200, reasonBytes(), 1, "HTTP/1.1 200 " + reasonBytes()},
		{0, "", 0, ""}, {0, "OK", 1, ""}, {99, "", 1, ""}, {600, "", 1, ""}, {-1, "", 1, ""}, {-200, "", 1, ""}, {20, "", 1, ""}, {2000, "", 1, ""},
		{200 + 1<<16, "", 1, ""}, {200 + 1<<32, "", 1, ""}, {math.MaxInt, "", 1, ""}, {math.MinInt, "", 1, ""}, {math.MinInt + 200, "", 1, ""},
		{200, "OK", 2, ""}, {200, "OK", -1, ""}, {200, "OK", 10, ""}, {200, "OK", 1 << 32, ""}, {200, "OK", 1<<32 + 1, ""}, {200, "OK", math.MaxInt, ""}, {200, "OK", math.MinInt, ""},
		{200, "\n", 1, ""}, {200, "OK\r\n", 1, ""}, {200, "\x00", 1, ""}, {200, "a\x08b", 1, ""}, {200, "a\x1f", 1, ""}, {200, "\x7f", 1, ""}, {200, "\u00e4\x7f", 1, ""},
	} {
		a := api.Reply{Status: x.status, Reason: x.reason, Minor: x.minor}
		if got := startline.FormatStatus(a); got != x.want {
			t.Errorf("FormatStatus(%v) = %q, want %q", a, got, x.want)
		}
	}
	for status := -100; status < 1200; status++ {
		for minor := -2; minor < 12; minor++ {
			checkReply(t, api.Reply{Status: status, Reason: "a", Minor: minor})
			checkReply(t, api.Reply{Status: status, Minor: minor})
			checkRequest(t, api.Request{Method: "GET", Target: "/", Minor: status + minor})
		}
	}
}

// P7.2, P7.3 and P7.4 on many lines and messages.

// Each byte counts, wherever it stands.
func TestLinesWithOneOtherByte(t *testing.T) {
	for _, s := range []string{
		"GET /a?b HTTP/1.1", "a / HTTP/1.0", "GET / HTTP/2.0", "GET /a", "HTTP/1.1 / HTTP/1.1",
		"HTTP/1.1 200 OK", "HTTP/1.0 404 a b", "HTTP/1.1 204 ", "HTTP/1.1 204", "HTTP/1.1 599 \u00e4", "HTTP/2.0 200 OK", "",
	} {
		for _, x := range edits(s) {
			checkLine(t, x)
		}
	}
}

func TestMessagesOfAllBytes(t *testing.T) {
	for _, s := range []string{"", "/", "/a", "ab", "OK", "a b", "\u00e4"} {
		for _, x := range append(edits(s), s) {
			for minor := range 2 {
				checkRequest(t, api.Request{Method: x, Target: "/", Minor: minor})
				checkRequest(t, api.Request{Method: "GET", Target: x, Minor: minor})
				checkReply(t, api.Reply{Status: 200, Reason: x, Minor: minor})
			}
		}
	}
}

// Lines of good and bad parts, between good and bad separators.
func TestLinesOfParts(t *testing.T) {
	blanks := []string{" ", "", "  ", "\t", " a "}
	versions := []string{"HTTP/1.0", "HTTP/1.1", "HTTP/1.2", "HTTP/2.0", "HTTP/1", "HTTP/x.1", "http/1.1", "", "HTTP/1.1 ", " HTTP/1.1", "HTTP/1.1\r\n"}
	for _, version := range versions {
		for _, first := range blanks {
			for _, second := range blanks {
				for _, target := range []string{"/", "/a?b", "", "a", "*", "/#", "/ ", "/\x80", "http://a/", "HTTP/1.1"} {
					for _, method := range []string{"GET", "a", "", "G:T", "G T", "\x80", " GET", "HTTP/1.1"} {
						checkLine(t, method+first+target+second+version)
					}
				}
				for _, code := range []string{"200", "100", "599", "099", "600", "", "20", "2000", "2x0", "+20", "\x80\x80\x80"} {
					for _, reason := range []string{"", "OK", "a b", " ", "\t", "\x80", "\x7f", "\n", "200"} {
						checkLine(t, version+first+code+second+reason)
					}
				}
			}
		}
	}
}

func TestShortLines(t *testing.T) {
	for _, s := range words(edges, 3) {
		checkLine(t, s)
	}
	for _, s := range words(" /a\x80", 5) {
		checkLine(t, s+" HTTP/1.1")
		checkLine(t, s+"HTTP/2.0")
		checkLine(t, "HTTP/1.0 200"+s)
	}
	for _, s := range words(" 012659x", 5) {
		checkLine(t, "HTTP/1.1"+s)
	}
}

func TestArbitraryMessages(t *testing.T) {
	r := rand.New(rand.NewSource(2))
	all := allBytes()
	for range 20000 {
		method, target, reason := "a"+random(r, tokenBytes, 10), "/"+random(r, targetBytes, 40), random(r, reasonBytes(), 40)
		checkRequest(t, api.Request{Method: method, Target: target, Minor: r.Intn(2)})
		checkReply(t, api.Reply{Status: 100 + r.Intn(500), Reason: reason, Minor: r.Intn(2)})
		checkRequest(t, api.Request{Method: method, Target: target, Minor: randomNumber(r)})
		checkRequest(t, api.Request{Method: method + random(r, edges, 1), Target: target, Minor: r.Intn(2)})
		checkRequest(t, api.Request{Method: method, Target: target + random(r, edges, 1), Minor: r.Intn(2)})
		checkRequest(t, api.Request{Method: random(r, all, 3), Target: random(r, all, 5), Minor: randomNumber(r)})
		checkReply(t, api.Reply{Status: randomNumber(r), Reason: reason, Minor: randomNumber(r)})
		checkReply(t, api.Reply{Status: randomNumber(r), Reason: random(r, all, 10), Minor: r.Intn(2)})
		checkReply(t, api.Reply{Status: 200, Reason: reason + random(r, edges, 1) + reason, Minor: 1})
	}
}

func TestArbitraryLines(t *testing.T) {
	r := rand.New(rand.NewSource(3))
	all := allBytes()
	for range 20000 {
		checkLine(t, random(r, all, 40))
		checkLine(t, random(r, " /HTP1.02", 20))
		checkLine(t, random(r, tokenBytes, 10)+" /"+random(r, targetBytes, 20)+" HTTP/1."+random(r, digits, 2))
		checkLine(t, random(r, tokenBytes, 10)+" "+random(r, targetBytes, 5)+random(r, edges, 2)+" HTTP/"+random(r, "0123.", 3))
		checkLine(t, "HTTP/1."+random(r, "01", 1)+" "+random(r, digits, 4)+" "+random(r, reasonBytes(), 20))
		checkLine(t, "HTTP/1.1 2"+random(r, digits, 2)+" "+random(r, all, 5))
		checkLine(t, "HTTP/1.1 "+random(r, all, 4))
	}
}

// The general rules.

// What a start line does not tell does not matter, and is left as it is.
func TestOtherFields(t *testing.T) {
	fields, body := []api.Field{{Name: "a b", Value: "\n"}, {Name: "Host", Value: "x"}}, []byte("body")
	for _, x := range []struct {
		method, target string
		minor          int
	}{{"GET", "/a", 1}, {"GET", "a", 1}, {"G T", "/a", 1}, {"GET", "/a", 2}} {
		r := api.Request{Method: x.method, Target: x.target, Minor: x.minor}
		full := api.Request{Method: x.method, Target: x.target, Minor: x.minor, Fields: fields, Framed: true, Body: body}
		if got, want := startline.FormatRequest(full), startline.FormatRequest(r); got != want {
			t.Errorf("%q, but %q with fields and a body", want, got)
		}
	}
	for _, status := range []int{200, 204, 304, 99} {
		full := api.Reply{Status: status, Reason: "a", Minor: 1, Fields: fields, Body: body}
		if got, want := startline.FormatStatus(full), wantFormatStatus(full); got != want {
			t.Errorf("%q, want %q", got, want)
		}
	}
	if !slices.Equal(fields, []api.Field{{Name: "a b", Value: "\n"}, {Name: "Host", Value: "x"}}) || string(body) != "body" {
		t.Errorf("%q and %q are changed", fields, body)
	}
}

// Long lines are treated as short ones are.
func TestLongLines(t *testing.T) {
	long := strings.Repeat("x", 1000000)
	many := strings.Repeat(" ", 1000000)
	for _, s := range []string{
		long + " /" + long + " HTTP/1.1", long + " /" + long + " HTTP/2.0", long + " /" + long + "# HTTP/1.1", long + ": /" + long + " HTTP/1.1", long + " /" + long + "?" + long + " HTTP/1.0",
		"HTTP/1.1 200 " + long, "HTTP/1.1 200 " + long + "\x7f", "HTTP/1.1 200" + many, "HTTP/1.1" + many + "200", "HTTP/1.1 200" + long,
		many, long, "GET / HTTP/1.1" + many, many + "GET / HTTP/1.1", "GET" + many + "/ HTTP/1.1",
		"HTTP/1.1 " + strings.Repeat("0", 1000000) + "200", "HTTP/1.1 " + strings.Repeat("9", 1000000), "GET / HTTP/" + strings.Repeat("1.", 1000000),
	} {
		checkLine(t, s)
	}
	checkTarget(t, "/"+long)
	checkTarget(t, "/"+strings.Repeat("?", 1000000))
	checkTarget(t, long)
	checkRequest(t, api.Request{Method: long, Target: "/" + long, Minor: 1})
	checkRequest(t, api.Request{Method: long + " ", Target: "/" + long, Minor: 1})
	checkReply(t, api.Reply{Status: 200, Reason: long + many, Minor: 1})
	checkReply(t, api.Reply{Status: 200, Reason: long + "\n", Minor: 1})
}
