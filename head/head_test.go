package head_test

import (
	"bytes"
	"fmt"
	"math"
	"math/rand"
	"regexp"
	"slices"
	"strings"
	"testing"

	"canary/api"
	"canary/head"
)

// Each promise is checked on named cases, on every text that differs from a head
// in a single byte, on all short texts of the bytes that matter, on heads with all
// combinations of faults, and on arbitrary bytes, numbers and heads, valid ones and
// others, against an oracle of regular expressions that calls no other layer.

const (
	end     = "\r\n"
	headEnd = "\r\n\r\n"
	get     = "GET / HTTP/1.1\r\n"
	old     = "GET / HTTP/1.0\r\n"
	ok      = "HTTP/1.1 200 OK\r\n"
	host    = "Host: a\r\n"
)

const (
	letters    = "ABCDEFGHIJKLMNOPQRSTUVWXYZabcdefghijklmnopqrstuvwxyz"
	digits     = "0123456789"
	tokenBytes = letters + digits + "!#$%&'*+-.^_`|~"
)

// These speak of runes, one for each byte (see wide).
var (
	headForm    = regexp.MustCompile(`^([^\r\n]*)((?:\r\n[^\r\n]+)*)\r\n\r\n$`)
	lineForm    = regexp.MustCompile(`\r\n[^\r\n]+`)
	methodForm  = regexp.MustCompile("^[-A-Za-z0-9!#$%&'*+.^_`|~]+$")
	targetForm  = regexp.MustCompile(`^/[!"$-~]*$`)
	reasonForm  = regexp.MustCompile(`^[\t -~\x{80}-\x{ff}]*$`)
	valueForm   = regexp.MustCompile(`^([!-~\x{80}-\x{ff}]([\t -~\x{80}-\x{ff}]*[!-~\x{80}-\x{ff}])?)?$`)
	requestForm = regexp.MustCompile("^([-A-Za-z0-9!#$%&'*+.^_`|~]+) (/[!\"$-~]*) HTTP/([0-9]\\.[0-9])$")
	statusForm  = regexp.MustCompile(`^HTTP/1\.([01]) ([1-5][0-9][0-9])(?: ([\t -~\x{80}-\x{ff}]*))?$`)
	fieldForm   = regexp.MustCompile("^([-A-Za-z0-9!#$%&'*+.^_`|~]+):[ \t]*([\t -~\\x{80}-\\x{ff}]*?)[ \t]*$")
	hostForm    = regexp.MustCompile(`^[Hh][Oo][Ss][Tt]$`)
)

// wide returns a string with a rune for each byte of s, so that the expressions speak of bytes.
func wide(s string) string {
	runes := make([]rune, len(s))
	for i := range len(s) {
		runes[i] = rune(s[i])
	}
	return string(runes)
}

func narrow(s string) string {
	var b []byte
	for _, r := range s {
		b = append(b, byte(r))
	}
	return string(b)
}

func wantEnd(s string, most int) (int, api.Errno) {
	for n := 0; n <= len(s) && n <= most; n++ {
		if strings.HasSuffix(s[:n], headEnd) {
			return n, api.OK
		}
	}
	if most <= len(s) {
		return 0, api.ErrLimit
	}
	return 0, api.ErrMore
}

// wantFields returns the fields of the lines in s, and how many of them are named Host.
func wantFields(s string) ([]api.Field, int, api.Errno) {
	lines := lineForm.FindAllString(s, -1)
	if len(lines) > 64 {
		return nil, 0, api.ErrLimit
	}
	var fields []api.Field
	hosts := 0
	for _, line := range lines {
		m := fieldForm.FindStringSubmatch(strings.TrimPrefix(line, end))
		if m == nil {
			return nil, 0, api.ErrSyntax
		}
		if hostForm.MatchString(m[1]) {
			hosts++
		}
		fields = append(fields, api.Field{Name: narrow(m[1]), Value: narrow(m[2])})
	}
	return fields, hosts, api.OK
}

func wantRequest(s string) (api.Request, api.Errno) {
	parts := headForm.FindStringSubmatch(wide(s))
	if parts == nil {
		return api.Request{}, api.ErrSyntax
	}
	words := requestForm.FindStringSubmatch(parts[1])
	if words == nil {
		return api.Request{}, api.ErrSyntax
	}
	if words[3] != "1.0" && words[3] != "1.1" {
		return api.Request{}, api.ErrUnknown
	}
	fields, hosts, e := wantFields(parts[2])
	if e != api.OK {
		return api.Request{}, e
	}
	r := api.Request{Method: narrow(words[1]), Target: narrow(words[2]), Minor: int(words[3][2] - '0'), Fields: fields}
	if hosts > 1 || hosts < r.Minor {
		return api.Request{}, api.ErrSyntax
	}
	return r, api.OK
}

func wantReply(s string) (api.Reply, api.Errno) {
	parts := headForm.FindStringSubmatch(wide(s))
	if parts == nil {
		return api.Reply{}, api.ErrSyntax
	}
	words := statusForm.FindStringSubmatch(parts[1])
	if words == nil {
		return api.Reply{}, api.ErrSyntax
	}
	fields, _, e := wantFields(parts[2])
	if e != api.OK {
		return api.Reply{}, e
	}
	a := api.Reply{Reason: narrow(words[3]), Minor: int(words[1][0] - '0'), Fields: fields}
	fmt.Sscan(words[2], &a.Status)
	return a, api.OK
}

// wantFormat returns the head with this start line, or nothing if that or a field cannot be written.
func wantFormat(start string, good bool, fields []api.Field) string {
	text := start + end
	for _, f := range fields {
		good = good && methodForm.MatchString(wide(f.Name)) && valueForm.MatchString(wide(f.Value))
		text += fmt.Sprintf("%s: %s\r\n", f.Name, f.Value)
	}
	if !good {
		return ""
	}
	return text + end
}

func wantFormatRequest(r api.Request) string {
	good := methodForm.MatchString(wide(r.Method)) && targetForm.MatchString(wide(r.Target)) && (r.Minor == 0 || r.Minor == 1)
	return wantFormat(fmt.Sprintf("%s %s HTTP/1.%d", r.Method, r.Target, r.Minor), good, r.Fields)
}

func wantFormatReply(a api.Reply) string {
	good := a.Status >= 100 && a.Status < 600 && reasonForm.MatchString(wide(a.Reason)) && (a.Minor == 0 || a.Minor == 1)
	return wantFormat(fmt.Sprintf("HTTP/1.%d %d %s", a.Minor, a.Status, a.Reason), good, a.Fields)
}

func sameRequest(a, b api.Request) bool {
	return a.Method == b.Method && a.Target == b.Target && a.Minor == b.Minor && a.Framed == b.Framed &&
		slices.Equal(a.Fields, b.Fields) && slices.Equal(a.Body, b.Body)
}

func sameReply(a, b api.Reply) bool {
	return a.Status == b.Status && a.Reason == b.Reason && a.Minor == b.Minor &&
		slices.Equal(a.Fields, b.Fields) && slices.Equal(a.Body, b.Body)
}

// countHosts returns how many fields are named Host.
func countHosts(l []api.Field) int {
	n := 0
	for _, f := range l {
		if hostForm.MatchString(wide(f.Name)) {
			n++
		}
	}
	return n
}

func checkEnd(t *testing.T, s string, most int) {
	t.Helper()
	n, e := head.End([]byte(s), most)
	if want, wantE := wantEnd(s, most); n != want || e != wantE {
		t.Fatalf("End(%q, %d) = %d, %d, want %d, %d", s, most, n, e, want, wantE)
	}
}

// checkParse compares both parsers with the oracle, and reads again what they
// return; it does so twice, since nothing is kept from call to call.
func checkParse(t *testing.T, s string) {
	t.Helper()
	b := []byte(s)
	for range 2 {
		r, e := head.ParseRequest(b)
		if want, wantE := wantRequest(s); !sameRequest(r, want) || e != wantE {
			t.Fatalf("ParseRequest(%q) = %#v, %d, want %#v, %d", s, r, e, want, wantE)
		}
		if e == api.OK {
			checkRequest(t, r)
		}
		a, e := head.ParseReply(b)
		if want, wantE := wantReply(s); !sameReply(a, want) || e != wantE {
			t.Fatalf("ParseReply(%q) = %#v, %d, want %#v, %d", s, a, e, want, wantE)
		}
		if e == api.OK {
			checkReply(t, a)
		}
	}
	if string(b) != s {
		t.Fatalf("%q is changed to %q", s, b)
	}
}

// check also looks for the end of a head in s.
func check(t *testing.T, s string) {
	t.Helper()
	checkParse(t, s)
	for _, most := range []int{len(s) - 1, len(s), len(s) + 1, math.MaxInt} {
		checkEnd(t, s, most)
	}
}

// checkRequest compares FormatRequest with the oracle, and reads the head again (P10.4).
func checkRequest(t *testing.T, r api.Request) {
	t.Helper()
	before := slices.Clone(r.Fields)
	b, want := head.FormatRequest(r), wantFormatRequest(r)
	if string(b) != want || string(head.FormatRequest(r)) != want || !slices.Equal(r.Fields, before) {
		t.Fatalf("FormatRequest(%#v) = %q, want %q", r, b, want)
	}
	if hosts := countHosts(r.Fields); want == "" || len(r.Fields) > 64 || hosts > 1 || hosts < r.Minor {
		return
	}
	again, e := head.ParseRequest(b)
	if !sameRequest(again, api.Request{Method: r.Method, Target: r.Target, Minor: r.Minor, Fields: r.Fields}) || e != api.OK {
		t.Fatalf("%#v is written %q and read as %#v, %d", r, b, again, e)
	}
	if n, e := head.End(b, len(b)); n != len(b) || e != api.OK {
		t.Fatalf("End(%q) = %d, %d", b, n, e)
	}
}

// checkReply compares FormatReply with the oracle, and reads the head again (P10.4).
func checkReply(t *testing.T, a api.Reply) {
	t.Helper()
	before := slices.Clone(a.Fields)
	b, want := head.FormatReply(a), wantFormatReply(a)
	if string(b) != want || string(head.FormatReply(a)) != want || !slices.Equal(a.Fields, before) {
		t.Fatalf("FormatReply(%#v) = %q, want %q", a, b, want)
	}
	if want == "" || len(a.Fields) > 64 {
		return
	}
	again, e := head.ParseReply(b)
	if !sameReply(again, api.Reply{Status: a.Status, Reason: a.Reason, Minor: a.Minor, Fields: a.Fields}) || e != api.OK {
		t.Fatalf("%#v is written %q and read as %#v, %d", a, b, again, e)
	}
	if n, e := head.End(b, len(b)); n != len(b) || e != api.OK {
		t.Fatalf("End(%q) = %d, %d", b, n, e)
	}
}

func allBytes() string {
	b := make([]byte, 256)
	for i := range b {
		b[i] = byte(i)
	}
	return string(b)
}

// valueBytes returns the bytes that may stand in a value or a reason.
func valueBytes() string {
	all := allBytes()
	return all[9:10] + all[32:127] + all[128:]
}

// words returns all strings of at most n bytes of the alphabet.
func words(alphabet string, n int) []string {
	l := []string{""}
	for first := 0; n > 0; n-- {
		last := len(l)
		for _, w := range l[first:last] {
			for i := range len(alphabet) {
				l = append(l, w+alphabet[i:i+1])
			}
		}
		first = last
	}
	return l
}

// edits returns the strings that differ from s in one byte that is missing,
// replaced or added, for every byte there is.
func edits(s string) []string {
	all := allBytes()
	var l []string
	for at := range len(s) + 1 {
		for i := range all {
			l = append(l, s[:at]+all[i:i+1]+s[at:])
			if at < len(s) {
				l = append(l, s[:at]+all[i:i+1]+s[at+1:])
			}
		}
		if at < len(s) {
			l = append(l, s[:at]+s[at+1:])
		}
	}
	return l
}

func random(r *rand.Rand, alphabet string, most int) string {
	b := make([]byte, r.Intn(most+1))
	for i := range b {
		b[i] = alphabet[r.Intn(len(alphabet))]
	}
	return string(b)
}

func pick[E any](r *rand.Rand, l ...E) E { return l[r.Intn(len(l))] }

func randomNumber(r *rand.Rand) int {
	return pick(r, 0, 1, 2, -1, 99, 100, 200, 599, 600, r.Intn(1000), -r.Intn(1000), int(r.Uint64()), math.MaxInt, math.MinInt, 1<<32+r.Intn(600))
}

// of makes fields of names and values.
func of(l ...string) []api.Field {
	var fields []api.Field
	for i := 0; i < len(l); i += 2 {
		fields = append(fields, api.Field{Name: l[i], Value: l[i+1]})
	}
	return fields
}

// repeated returns n fields a: b.
func repeated(n int) []api.Field {
	return slices.Repeat(of("a", "b"), n)
}

// spare returns the bytes of s in an array that has more bytes, which would
// complete a head, and that array.
func spare(s string) ([]byte, []byte) {
	array := []byte(s + headEnd + headEnd)
	return array[:len(s)], array
}

// overwrite changes all bytes of b, and of the memory behind it that belongs to it.
func overwrite(b []byte) {
	b = b[:cap(b)]
	for i := range b {
		b[i] ^= 0x55
	}
}

// samples are heads, and texts that are refused.
var samples = []string{
	get + host + end,
	"POST /a?b HTTP/1.1\r\nhost:b\r\nX:  c d \r\n\r\n",
	old + end,
	old + "A:\r\n\r\n",
	old + host + "HOST: b\r\n\r\n",
	"GET / HTTP/2.0\r\n" + host + end,
	ok + end,
	ok + "A: b\r\nA:c\r\n\r\n",
	"HTTP/1.0 204\r\n\r\n",
	"HTTP/2.0 200 OK\r\n\r\n",
	headEnd,
	"",
}

// P10.1

func TestEnd(t *testing.T) {
	s := get + host + end
	for _, x := range []struct {
		s    string
		most int
		n    int
		e    api.Errno
	}{
		{s, 27, 27, api.OK}, {s, 28, 27, api.OK}, {s, 100, 27, api.OK}, {s, math.MaxInt, 27, api.OK},
		{s, 26, 0, api.ErrLimit}, {s, 4, 0, api.ErrLimit}, {s, 0, 0, api.ErrLimit}, {s, -1, 0, api.ErrLimit}, {s, math.MinInt, 0, api.ErrLimit},
		{s[:26], 27, 0, api.ErrMore}, {s[:26], math.MaxInt, 0, api.ErrMore}, {s[:26], 26, 0, api.ErrLimit}, {s[:26], 25, 0, api.ErrLimit}, {s[:26], -1, 0, api.ErrLimit},
		{s + s, 100, 27, api.OK}, {s + s, 27, 27, api.OK}, {s + s, 26, 0, api.ErrLimit}, {s + "x", 27, 27, api.OK}, {s + "\r\n", 100, 27, api.OK}, {s + "\n", 28, 27, api.OK},
		{"", 1, 0, api.ErrMore}, {"", 0, 0, api.ErrLimit}, {"", -1, 0, api.ErrLimit}, {"", math.MaxInt, 0, api.ErrMore}, {"", math.MinInt, 0, api.ErrLimit},
		{headEnd, 4, 4, api.OK}, {headEnd, 5, 4, api.OK}, {headEnd, 3, 0, api.ErrLimit}, {headEnd + headEnd, 8, 4, api.OK}, {headEnd + headEnd, 4, 4, api.OK},
		{"\r\n\r", 4, 0, api.ErrMore}, {"\r\n\r", 3, 0, api.ErrLimit}, {"\r\n\r\r\n\r\n", 7, 7, api.OK}, {"\r\r\n\r\n", 5, 5, api.OK}, {"\n\r\n\r\n", 5, 5, api.OK}, {"\r\n\r\r\n\r\n", 6, 0, api.ErrLimit},
		{"\r\n\r\n\r\n", 6, 4, api.OK}, {"a\r\n\r\n\r\n", 100, 5, api.OK},
		{"a\n\nb", 100, 0, api.ErrMore}, {"a\r\rb", 100, 0, api.ErrMore}, {"a\n\r\n", 100, 0, api.ErrMore}, {"a\r\n\n", 100, 0, api.ErrMore}, {"\n\r\n\r", 100, 0, api.ErrMore}, {"a\r\n \r\n", 100, 0, api.ErrMore},
		{"\x00\xff\r\n\r\n", 6, 6, api.OK}, {"\u010d\u010a\u010d\u010a", 100, 0, api.ErrMore}, {"\x8d\x8a\x8d\x8a", 100, 0, api.ErrMore},
	} {
		if n, e := head.End([]byte(x.s), x.most); n != x.n || e != x.e {
			t.Errorf("End(%q, %d) = %d, %d, want %d, %d", x.s, x.most, n, e, x.n, x.e)
		}
		checkEnd(t, x.s, x.most)
	}
	if n, e := head.End(nil, 1); n != 0 || e != api.ErrMore {
		t.Errorf("End(nil, 1) = %d, %d", n, e)
	}
}

// All short texts, with each limit.
func TestEndOfShortTexts(t *testing.T) {
	for _, s := range words("\r\na", 8) {
		for most := -1; most <= len(s)+1; most++ {
			checkEnd(t, s, most)
		}
		checkEnd(t, s, math.MaxInt)
		checkEnd(t, s, math.MinInt)
	}
}

// Each beginning of a head needs more, and what is behind it does not matter.
func TestEndOfBeginnings(t *testing.T) {
	r := rand.New(rand.NewSource(1))
	for _, s := range samples {
		n := strings.Index(s, headEnd) + len(headEnd)
		if n < len(headEnd) {
			continue
		}
		for at := range n {
			if got, e := head.End([]byte(s[:at]), n); got != 0 || e != api.ErrMore {
				t.Errorf("End(%q, %d) = %d, %d", s[:at], n, got, e)
			}
		}
		for range 20 {
			behind := s[:n] + random(r, allBytes(), 20)
			if got, e := head.End([]byte(behind), n); got != n || e != api.OK {
				t.Errorf("End(%q, %d) = %d, %d", behind, n, got, e)
			}
		}
	}
}

func TestEndOfArbitraryTexts(t *testing.T) {
	r := rand.New(rand.NewSource(2))
	for range 50000 {
		s := pick(r, random(r, "\r\n", 30), random(r, "\r\na", 60), random(r, allBytes(), 20)+headEnd+random(r, allBytes(), 20), random(r, "\r\n\r\n\r\nabc", 100))
		checkEnd(t, s, r.Intn(len(s)+3))
		checkEnd(t, s, randomNumber(r))
	}
}

// P10.2

func TestParseRequest(t *testing.T) {
	for _, x := range []struct {
		s    string
		want api.Request
	}{
		{get + host + end, api.Request{Method: "GET", Target: "/", Minor: 1, Fields: of("Host", "a")}},
		{old + end, api.Request{Method: "GET", Target: "/"}},
		{old + host + end, api.Request{Method: "GET", Target: "/", Fields: of("Host", "a")}},
		{"POST /a HTTP/1.1\r\nhost:b\r\nX:  c d \r\n\r\n", api.Request{Method: "POST", Target: "/a", Minor: 1, Fields: of("host", "b", "X", "c d")}},
		{get + "A: 1\r\nHOST:\r\na: 2\r\nA: 1\r\n\r\n", api.Request{Method: "GET", Target: "/", Minor: 1, Fields: of("A", "1", "HOST", "", "a", "2", "A", "1")}},
		{get + "hOSt: \t a:b, c\t \r\n\r\n", api.Request{Method: "GET", Target: "/", Minor: 1, Fields: of("hOSt", "a:b, c")}},
		{get + host + "Hosts: a\r\nX-Host: a\r\nHos: a\r\n\r\n", api.Request{Method: "GET", Target: "/", Minor: 1, Fields: of("Host", "a", "Hosts", "a", "X-Host", "a", "Hos", "a")}},
		{get + host + "Content-Length: 5\r\nTransfer-Encoding: chunked\r\n\r\n", api.Request{Method: "GET", Target: "/", Minor: 1, Fields: of("Host", "a", "Content-Length", "5", "Transfer-Encoding", "chunked")}},
		{old + "A: \x80\xff\tb\r\n\r\n", api.Request{Method: "GET", Target: "/", Fields: of("A", "\x80\xff\tb")}},
		{old + "A: HTTP/1.1 200 OK\r\n\r\n", api.Request{Method: "GET", Target: "/", Fields: of("A", "HTTP/1.1 200 OK")}},
		{get + host + strings.Repeat("a: b\r\n", 63) + end, api.Request{Method: "GET", Target: "/", Minor: 1, Fields: slices.Concat(of("Host", "a"), repeated(63))}},
		{get + strings.Repeat("a: b\r\n", 63) + host + end, api.Request{Method: "GET", Target: "/", Minor: 1, Fields: slices.Concat(repeated(63), of("Host", "a"))}},
		{old + strings.Repeat("a: b\r\n", 64) + end, api.Request{Method: "GET", Target: "/", Fields: repeated(64)}},
	} {
		if got, e := head.ParseRequest([]byte(x.s)); !sameRequest(got, x.want) || e != api.OK {
			t.Errorf("ParseRequest(%q) = %#v, %d, want %#v", x.s, got, e, x.want)
		}
		check(t, x.s)
	}
}

func TestParseRequestErrors(t *testing.T) {
	many := strings.Repeat("a: b\r\n", 64)
	for _, x := range []struct {
		s string
		e api.Errno
	}{
		{"", api.ErrSyntax}, {"\r\n", api.ErrSyntax}, {headEnd, api.ErrSyntax}, {"x", api.ErrSyntax}, {"x" + headEnd, api.ErrSyntax},

		{get + host, api.ErrSyntax}, {get + host + "\r", api.ErrSyntax}, {get + host + "\n", api.ErrSyntax}, {"GET / HTTP/1.0\r\n", api.ErrSyntax}, {"GET / HTTP/1.0", api.ErrSyntax}, {"GET / HTTP/2.0\r\n" + host, api.ErrSyntax},
		{get + host + end + "x", api.ErrSyntax}, {get + host + end + end, api.ErrSyntax}, {get + end + host + end, api.ErrSyntax}, {get + host + end + get + host + end, api.ErrSyntax}, {headEnd + get + host + end, api.ErrSyntax}, {"GET / HTTP/2.0" + headEnd + headEnd, api.ErrSyntax},
		{end + get + host + end, api.ErrSyntax}, {get + host + end + "\n", api.ErrSyntax}, {" " + get + host + end, api.ErrSyntax},

		{"GET / HTTP/1.1\n" + host + end, api.ErrSyntax}, {"GET / HTTP/1.1\nHost: a\n\n", api.ErrSyntax}, {"GET / HTTP/1.1\rHost: a" + headEnd, api.ErrSyntax}, {get + "Host: a\r" + headEnd, api.ErrSyntax}, {get + "Host: a\n" + headEnd, api.ErrSyntax},
		{get + host + "A: b\rc" + headEnd, api.ErrSyntax}, {get + host + "A: b\nc: d" + headEnd, api.ErrSyntax}, {get + host + "\nA: b" + headEnd, api.ErrSyntax}, {get + host + "\rA: b" + headEnd, api.ErrSyntax}, {"\n" + get + host + end, api.ErrSyntax}, {"\r" + get + host + end, api.ErrSyntax},
		{get + host + "A: b\n\r" + headEnd, api.ErrSyntax}, {"GET / HTTP/2.0\r" + headEnd, api.ErrSyntax}, {"GET / HTTP/2.0" + end + host + "A: \r" + headEnd, api.ErrSyntax}, {"GET / HTTP/2.0" + end + host + "A: \nb" + headEnd, api.ErrSyntax}, {old + many + "a: \r" + headEnd, api.ErrSyntax}, {old + many + "a: \nb" + headEnd, api.ErrSyntax},

		{"GET a HTTP/1.1" + end + host + end, api.ErrSyntax}, {"GET  / HTTP/1.1" + end + host + end, api.ErrSyntax}, {"GET / HTTP/1" + end + host + end, api.ErrSyntax}, {"GET /# HTTP/1.1" + end + host + end, api.ErrSyntax}, {"G:T / HTTP/1.1" + end + host + end, api.ErrSyntax}, {"GET /" + end + host + end, api.ErrSyntax}, {ok + host + end, api.ErrSyntax},
		{"GET / HTTP/2.0" + headEnd, api.ErrUnknown}, {"GET / HTTP/1.2" + end + host + end, api.ErrUnknown}, {"GET / HTTP/0.9" + end + host + host + end, api.ErrUnknown}, {"GET / HTTP/2.0" + end + "x" + headEnd, api.ErrUnknown}, {"GET / HTTP/2.0" + end + host + many + end, api.ErrUnknown}, {"GET a HTTP/2.0" + end + host + end, api.ErrSyntax}, {"GET a HTTP/1.1" + end + many + host + end, api.ErrSyntax},

		{get + host + many + end, api.ErrLimit}, {get + many + host + end, api.ErrLimit}, {old + many + host + end, api.ErrLimit}, {old + many + "a: b" + headEnd, api.ErrLimit}, {old + many + many + end, api.ErrLimit}, {old + many + "x" + headEnd, api.ErrLimit}, {old + "x" + end + many + end, api.ErrLimit}, {old + many + " a: b" + headEnd, api.ErrLimit},
		{get + many + "a: b" + headEnd, api.ErrLimit}, {old + many + host + host + end, api.ErrLimit}, {get + host + many + " " + headEnd, api.ErrLimit},

		{get + host + "A" + headEnd, api.ErrSyntax}, {get + host + ": b" + headEnd, api.ErrSyntax}, {get + host + "A : b" + headEnd, api.ErrSyntax}, {get + host + "A B: c" + headEnd, api.ErrSyntax}, {get + host + "A: \x00" + headEnd, api.ErrSyntax}, {get + host + "A: b\x7f" + headEnd, api.ErrSyntax}, {get + host + "\x80: b" + headEnd, api.ErrSyntax}, {get + host + " " + headEnd, api.ErrSyntax}, {get + host + ":" + headEnd, api.ErrSyntax},
		{get + "Host" + headEnd, api.ErrSyntax}, {get + "Host : a" + headEnd, api.ErrSyntax}, {get + "x" + end + host + end, api.ErrSyntax}, {get + " " + host + end, api.ErrSyntax}, {old + "x" + headEnd, api.ErrSyntax}, {old + strings.Repeat("a: b\r\n", 63) + "x" + headEnd, api.ErrSyntax},

		{get + end, api.ErrSyntax}, {get + "A: b" + headEnd, api.ErrSyntax}, {get + "Hosts: a" + headEnd, api.ErrSyntax}, {get + "X-Host: a" + headEnd, api.ErrSyntax}, {get + "A: Host: a" + headEnd, api.ErrSyntax}, {get + many + end, api.ErrSyntax},
		{get + host + host + end, api.ErrSyntax}, {old + host + host + end, api.ErrSyntax}, {get + host + "A: b\r\nhOST: c" + headEnd, api.ErrSyntax}, {old + "HOST:\r\nhost:" + headEnd, api.ErrSyntax}, {get + host + host + host + end, api.ErrSyntax},
	} {
		if got, e := head.ParseRequest([]byte(x.s)); !sameRequest(got, api.Request{}) || e != x.e {
			t.Errorf("ParseRequest(%q) = %#v, %d, want %d", x.s, got, e, x.e)
		}
		check(t, x.s)
	}
	if got, e := head.ParseRequest(nil); !sameRequest(got, api.Request{}) || e != api.ErrSyntax {
		t.Errorf("ParseRequest(nil) = %#v, %d", got, e)
	}
}

func TestParseReply(t *testing.T) {
	for _, x := range []struct {
		s    string
		want api.Reply
	}{
		{ok + end, api.Reply{Status: 200, Reason: "OK", Minor: 1}},
		{"HTTP/1.0 200 Fine\r\nA: b\r\n\r\n", api.Reply{Status: 200, Reason: "Fine", Fields: of("A", "b")}},
		{"HTTP/1.1 204\r\n\r\n", api.Reply{Status: 204, Minor: 1}},
		{"HTTP/1.1 204 \r\n\r\n", api.Reply{Status: 204, Minor: 1}},
		{"HTTP/1.1 100 Continue\r\n\r\n", api.Reply{Status: 100, Reason: "Continue", Minor: 1}},
		{"HTTP/1.1 599  a\t\x80 \r\nA:\r\na: b \r\nA: \t\r\n\r\n", api.Reply{Status: 599, Reason: " a\t\x80 ", Minor: 1, Fields: of("A", "", "a", "b", "A", "")}},
		{ok + host + host + end, api.Reply{Status: 200, Reason: "OK", Minor: 1, Fields: of("Host", "a", "Host", "a")}},
		{"HTTP/1.0 404 a\r\n" + host + "HOST: b\r\n\r\n", api.Reply{Status: 404, Reason: "a", Fields: of("Host", "a", "HOST", "b")}},
		{ok + strings.Repeat("a: b\r\n", 64) + end, api.Reply{Status: 200, Reason: "OK", Minor: 1, Fields: repeated(64)}},
	} {
		if got, e := head.ParseReply([]byte(x.s)); !sameReply(got, x.want) || e != api.OK {
			t.Errorf("ParseReply(%q) = %#v, %d, want %#v", x.s, got, e, x.want)
		}
		check(t, x.s)
	}
}

func TestParseReplyErrors(t *testing.T) {
	many := strings.Repeat("a: b\r\n", 64)
	for _, x := range []struct {
		s string
		e api.Errno
	}{
		{"", api.ErrSyntax}, {"\r\n", api.ErrSyntax}, {headEnd, api.ErrSyntax}, {"x" + headEnd, api.ErrSyntax},
		{ok, api.ErrSyntax}, {ok + "A: b\r\n", api.ErrSyntax}, {ok + "A: b\r\n\r", api.ErrSyntax}, {ok + many + "a: b\r\n", api.ErrSyntax}, {ok + end + "x", api.ErrSyntax}, {ok + end + end, api.ErrSyntax}, {ok + end + ok + end, api.ErrSyntax}, {ok + end + many + many + end, api.ErrSyntax}, {end + ok + end, api.ErrSyntax},
		{"HTTP/1.1 200 OK\n\n", api.ErrSyntax}, {"HTTP/1.1 200 OK\n" + headEnd, api.ErrSyntax}, {"HTTP/1.1 200 OK\r" + headEnd, api.ErrSyntax}, {ok + "A: b\n" + headEnd, api.ErrSyntax}, {ok + "A: b\r" + headEnd, api.ErrSyntax}, {ok + many + "a: b\r" + headEnd, api.ErrSyntax}, {ok + many + "a\n: b" + headEnd, api.ErrSyntax},
		{"HTTP/2.0 200 OK" + headEnd, api.ErrSyntax}, {"HTTP/1.2 200 OK" + headEnd, api.ErrSyntax}, {"HTTP/1.1 99 a" + headEnd, api.ErrSyntax}, {"HTTP/1.1 600 a" + headEnd, api.ErrSyntax}, {"HTTP/1.1 200 \x7f" + headEnd, api.ErrSyntax}, {get + host + end, api.ErrSyntax}, {"HTTP/1.1 99 a" + end + many + "a: b" + headEnd, api.ErrSyntax},
		{ok + many + "a: b" + headEnd, api.ErrLimit}, {ok + many + many + end, api.ErrLimit}, {ok + many + "x" + headEnd, api.ErrLimit}, {ok + "x" + end + many + end, api.ErrLimit}, {ok + many + " a: b" + headEnd, api.ErrLimit},
		{ok + "A" + headEnd, api.ErrSyntax}, {ok + "A : b" + headEnd, api.ErrSyntax}, {ok + ": b" + headEnd, api.ErrSyntax}, {ok + "A: \x00" + headEnd, api.ErrSyntax}, {ok + " A: b" + headEnd, api.ErrSyntax}, {ok + strings.Repeat("a: b\r\n", 63) + "x" + headEnd, api.ErrSyntax},
	} {
		if got, e := head.ParseReply([]byte(x.s)); !sameReply(got, api.Reply{}) || e != x.e {
			t.Errorf("ParseReply(%q) = %#v, %d, want %d", x.s, got, e, x.e)
		}
		check(t, x.s)
	}
	if got, e := head.ParseReply(nil); !sameReply(got, api.Reply{}) || e != api.ErrSyntax {
		t.Errorf("ParseReply(nil) = %#v, %d", got, e)
	}
}

// Each byte counts, wherever it stands.
func TestHeadsWithOneOtherByte(t *testing.T) {
	for _, s := range samples {
		for _, x := range append(edits(s), s) {
			check(t, x)
		}
	}
}

func TestShortHeads(t *testing.T) {
	for _, s := range words("\r\n: a\x80", 6) {
		checkParse(t, s)
		checkParse(t, old+s+headEnd)
		checkParse(t, ok+s+headEnd)
		checkParse(t, "GET / HTTP/2.0"+s+headEnd)
	}
	for _, s := range words("\r\nHa:", 6) {
		checkParse(t, get+host+s+end)
		checkParse(t, s+old+host+end)
		checkParse(t, ok+"A: b"+s)
	}
}

// fault is a text of which heads are made, and the error that it leads to.
type fault struct {
	s string
	e api.Errno
}

// Of several errors that apply, the first in the order of the promise is returned.
func TestFirstError(t *testing.T) {
	starts := []fault{{"GET / HTTP/1.1", api.OK}, {"GET / HTTP/2.0", api.ErrUnknown}, {"GET a HTTP/1.1", api.ErrSyntax}, {"GET / http/2.0", api.ErrSyntax}, {"", api.ErrSyntax}}
	numbers := []fault{{"", api.OK}, {strings.Repeat("\r\na: b", 64), api.ErrLimit}}
	fields := []fault{{"\r\nA: b", api.OK}, {"\r\nA b", api.ErrSyntax}, {"\r\n A: b", api.ErrSyntax}}
	hosts := []fault{{"\r\nHost: a", api.OK}, {"\r\nHosts: a", api.ErrSyntax}, {"\r\nHost: a\r\nhost: a", api.ErrSyntax}}
	bytes := []fault{{"\r\nB: c", api.OK}, {"\r\nB: \rc", api.ErrSyntax}, {"\r\nB: c\nd: e", api.ErrSyntax}, {"\r\n\nB: c", api.ErrSyntax}}
	ends := []fault{{headEnd, api.OK}, {end, api.ErrSyntax}, {headEnd + "x", api.ErrSyntax}, {headEnd + headEnd, api.ErrSyntax}, {headEnd + end, api.ErrSyntax}}
	for _, start := range starts {
		for _, number := range numbers {
			for _, field := range fields {
				for _, host := range hosts {
					for _, raw := range bytes {
						for _, end := range ends {
							want := api.OK
							for _, x := range []fault{end, raw, start, number, field, host} {
								if want == api.OK {
									want = x.e
								}
							}
							s := start.s + host.s + field.s + number.s + raw.s + end.s
							if got, e := head.ParseRequest([]byte(s)); e != want || e != api.OK && !sameRequest(got, api.Request{}) {
								t.Errorf("ParseRequest(%q) = %#v, %d, want %d", s, got, e, want)
							}
							checkParse(t, s)
							checkParse(t, start.s+raw.s+number.s+field.s+host.s+end.s)
							checkParse(t, strings.Replace(s, start.s, "HTTP/1.1 200 OK", 1))
						}
					}
				}
			}
		}
	}
}

// The number of fields and that of hosts, around their limits.
func TestNumbersOfFields(t *testing.T) {
	for n := range 70 {
		for hosts := range 4 {
			for _, at := range []int{0, n / 2, n} {
				fields := strings.Repeat("a: b\r\n", at) + strings.Repeat(host, hosts) + strings.Repeat("a:\r\n", n-at)
				for _, start := range []string{get, old, ok, "HTTP/1.0 204\r\n", "GET / HTTP/1.2\r\n"} {
					checkParse(t, start+fields+end)
				}
			}
		}
	}
}

// randomLine returns a line of a head, mostly that of a field with its line end; about one of rate lines is another.
func randomLine(r *rand.Rand, rate int) string {
	name, value := "a"+pick(r, "A", "host", "Via", "X-Y", random(r, tokenBytes, 8)), random(r, valueBytes(), 12)
	if r.Intn(rate) > 0 {
		return name + ":" + random(r, " \t", 2) + value + random(r, " \t", 2) + end
	}
	return pick(r,
		random(r, allBytes(), 10)+end,
		name+random(r, allBytes(), 2)+":"+value+end,
		name+":"+value+random(r, "\r\n\x00\x7f", 2)+end,
		random(r, " \t", 2)+name+":"+value+end,
		value+end,
		name+":"+value+pick(r, "\r", "\n", "", "\n\r", end+end),
	)
}

func randomStart(r *rand.Rand) string {
	target := "/" + random(r, "ab/?%~!", 8)
	status := pick(r, "1", "2", "3", "4", "5") + pick(r, "00", "04", "99")
	switch r.Intn(12) {
	case 0:
		return random(r, allBytes(), 12) + pick(r, "", " "+target+" HTTP/1.0", " 200 OK")
	case 1, 2:
		return "GET " + target + " HTTP/" + random(r, digits, 1) + "." + random(r, digits, 1)
	case 3:
		return "HTTP/1.1 " + random(r, digits, 4)
	case 4, 5, 6, 7:
		return "HTTP/1." + pick(r, "0", "1") + " " + status + pick(r, "", " ", " "+random(r, valueBytes(), 10))
	}
	return "a" + random(r, tokenBytes, 5) + " " + target + " HTTP/1." + pick(r, "0", "1")
}

// randomHead returns a text that is often a head.
func randomHead(r *rand.Rand) string {
	rate := pick(r, 1000000, 100, 10)
	s := randomStart(r) + end
	if r.Intn(3) > 0 {
		s += pick(r, "Host", "HOST", "host") + ":" + random(r, valueBytes(), 5) + end
	}
	for range pick(r, 0, 1, r.Intn(5), r.Intn(10), 60+r.Intn(10)) {
		s += randomLine(r, rate)
	}
	if r.Intn(10) > 0 {
		return s + end
	}
	return s + pick(r, "", "\r", "\n", headEnd, end+"x")
}

func TestArbitraryHeads(t *testing.T) {
	r := rand.New(rand.NewSource(3))
	found := map[api.Errno]int{}
	for range 12000 {
		s := randomHead(r)
		check(t, s)
		_, e := wantRequest(s)
		_, f := wantReply(s)
		found[e]++
		found[f]++
	}
	for _, e := range []api.Errno{api.OK, api.ErrSyntax, api.ErrUnknown, api.ErrLimit} {
		if found[e] < 300 {
			t.Errorf("the error %d is returned only %d times", e, found[e])
		}
	}
	for range 10000 {
		check(t, random(r, allBytes(), 40))
		check(t, random(r, "\r\n: aGET/HP1.0", 40)+headEnd)
		check(t, old+random(r, allBytes(), 10)+headEnd)
		check(t, ok+random(r, tokenBytes, 5)+":"+random(r, allBytes(), 5)+headEnd)
	}
}

// P10.3

func TestFormatRequest(t *testing.T) {
	for _, x := range []struct {
		r    api.Request
		want string
	}{
		{api.Request{Method: "GET", Target: "/", Minor: 1, Fields: of("Host", "a")}, get + host + end},
		{api.Request{Method: "GET", Target: "/"}, old + end},
		{api.Request{Method: "GET", Target: "/", Fields: []api.Field{}}, old + end},
		{api.Request{Method: "GET", Target: "/", Minor: 1}, get + end},
		{api.Request{Method: "POST", Target: "/a?b", Minor: 1, Fields: of("host", "b", "X", "c d", "x", "")}, "POST /a?b HTTP/1.1\r\nhost: b\r\nX: c d\r\nx: \r\n\r\n"},
		{api.Request{Method: "GET", Target: "/", Minor: 1, Fields: of("Host", "a", "Host", "a")}, get + host + host + end},
		{api.Request{Method: "GET", Target: "/", Fields: of("A", "\x80\xff")}, old + "A: \x80\xff\r\n\r\n"},
		{api.Request{Method: "GET", Target: "/", Minor: 1, Fields: repeated(100)}, get + strings.Repeat("a: b\r\n", 100) + end},
		{api.Request{Method: "GET", Target: "/", Minor: 1, Fields: of("Host", "a"), Framed: true, Body: []byte("body")}, get + host + end},

		{api.Request{}, ""}, {api.Request{Fields: of("Host", "a")}, ""},
		{api.Request{Target: "/", Minor: 1}, ""}, {api.Request{Method: "GET", Minor: 1}, ""}, {api.Request{Method: "GET", Target: "/", Minor: 2}, ""}, {api.Request{Method: "GET", Target: "/", Minor: -1}, ""}, {api.Request{Method: "GET", Target: "/", Minor: 1 << 32}, ""},
		{api.Request{Method: "G T", Target: "/", Minor: 1, Fields: of("Host", "a")}, ""}, {api.Request{Method: "GET", Target: "/ ", Minor: 1, Fields: of("Host", "a")}, ""}, {api.Request{Method: "GET", Target: "/\r\nHost:", Minor: 1, Fields: of("Host", "a")}, ""}, {api.Request{Method: "GET\r\n", Target: "/", Minor: 1}, ""},
		{api.Request{Method: "GET", Target: "/", Minor: 1, Fields: of("", "")}, ""}, {api.Request{Method: "GET", Target: "/", Minor: 1, Fields: of("a b", "c")}, ""}, {api.Request{Method: "GET", Target: "/", Minor: 1, Fields: of("Host", "a", "A:", "")}, ""}, {api.Request{Method: "GET", Target: "/", Minor: 1, Fields: of("A", "\n", "Host", "a")}, ""},
		{api.Request{Method: "GET", Target: "/", Minor: 1, Fields: of("A", "b\r\nC: d")}, ""}, {api.Request{Method: "GET", Target: "/", Minor: 1, Fields: of("A", " b")}, ""}, {api.Request{Method: "GET", Target: "/", Minor: 1, Fields: of("A", "b\t")}, ""}, {api.Request{Method: "GET", Target: "/", Minor: 1, Fields: of("A", "\r\n")}, ""}, {api.Request{Method: "GET", Target: "/", Minor: 1, Fields: of(" A", "b")}, ""},
		{api.Request{Method: "GET", Target: "/", Minor: 1, Fields: append(repeated(100), of("A", "\x00")...)}, ""},
	} {
		if got := string(head.FormatRequest(x.r)); got != x.want {
			t.Errorf("FormatRequest(%#v) = %q, want %q", x.r, got, x.want)
		}
		checkRequest(t, x.r)
	}
}

func TestFormatReply(t *testing.T) {
	for _, x := range []struct {
		a    api.Reply
		want string
	}{
		{api.Reply{Status: 200, Reason: "OK", Minor: 1}, ok + end},
		{api.Reply{Status: 204}, "HTTP/1.0 204 \r\n\r\n"},
		{api.Reply{Status: 204, Minor: 1, Fields: []api.Field{}}, "HTTP/1.1 204 \r\n\r\n"},
		{api.Reply{Status: 200, Reason: "OK", Minor: 1, Fields: of("A", "b", "a", "", "Host", "c")}, ok + "A: b\r\na: \r\nHost: c\r\n\r\n"},
		{api.Reply{Status: 404, Reason: " \x80 ", Fields: of("A", "b")}, "HTTP/1.0 404  \x80 \r\nA: b\r\n\r\n"},
		{api.Reply{Status: 200, Reason: "OK", Minor: 1, Fields: repeated(100)}, ok + strings.Repeat("a: b\r\n", 100) + end},
		{api.Reply{Status: 200, Reason: "OK", Minor: 1, Body: []byte("body")}, ok + end},

		{api.Reply{}, ""}, {api.Reply{Reason: "OK", Minor: 1}, ""}, {api.Reply{Status: 99, Minor: 1}, ""}, {api.Reply{Status: 600, Minor: 1}, ""}, {api.Reply{Status: 200, Minor: 2}, ""}, {api.Reply{Status: 200, Minor: -1}, ""}, {api.Reply{Status: math.MinInt, Minor: 1, Fields: of("A", "b")}, ""},
		{api.Reply{Status: 200, Reason: "\n", Minor: 1}, ""}, {api.Reply{Status: 200, Reason: "OK\r\nA: b", Minor: 1}, ""}, {api.Reply{Status: 200, Reason: "OK\r\n", Minor: 1}, ""}, {api.Reply{Status: 200, Reason: "\x00", Minor: 1, Fields: of("A", "b")}, ""},
		{api.Reply{Status: 200, Reason: "OK", Minor: 1, Fields: of("", "b")}, ""}, {api.Reply{Status: 200, Reason: "OK", Minor: 1, Fields: of("A", "b", "A", "\n")}, ""}, {api.Reply{Status: 200, Reason: "OK", Minor: 1, Fields: of("A ", "b")}, ""}, {api.Reply{Status: 200, Reason: "OK", Minor: 1, Fields: of("A", " ")}, ""},
	} {
		if got := string(head.FormatReply(x.a)); got != x.want {
			t.Errorf("FormatReply(%#v) = %q, want %q", x.a, got, x.want)
		}
		checkReply(t, x.a)
	}
}

func TestFormatOfNumbers(t *testing.T) {
	for status := -10; status < 700; status++ {
		for minor := -2; minor < 12; minor++ {
			checkReply(t, api.Reply{Status: status, Reason: "a", Minor: minor, Fields: of("A", "b")})
			checkRequest(t, api.Request{Method: "GET", Target: "/", Minor: minor, Fields: of("Host", "b")})
		}
	}
}

// Each byte counts, in each part of a message.
func TestFormatOfAllBytes(t *testing.T) {
	for _, s := range []string{"", "a", "/", "a b", "ab"} {
		for _, x := range append(edits(s), s) {
			checkRequest(t, api.Request{Method: x, Target: "/", Minor: 1, Fields: of("Host", "a")})
			checkRequest(t, api.Request{Method: "GET", Target: x, Minor: 1, Fields: of("Host", "a")})
			checkReply(t, api.Reply{Status: 200, Reason: x, Minor: 1})
			for _, fields := range [][]api.Field{of("Host", "a", x, "b"), of("A", x, "Host", "a"), of("Host", x)} {
				checkRequest(t, api.Request{Method: "GET", Target: "/", Minor: 1, Fields: fields})
				checkReply(t, api.Reply{Status: 200, Reason: "OK", Fields: fields})
			}
		}
	}
}

// P10.4

func randomFields(r *rand.Rand) []api.Field {
	l := make([]api.Field, pick(r, 0, 1, r.Intn(5), r.Intn(80)))
	for i := range l {
		value := random(r, valueBytes(), 12)
		l[i] = api.Field{Name: pick(r, "A", "a"+random(r, tokenBytes, 9)), Value: strings.Trim(value, " \t")}
		switch r.Intn(200) {
		case 0:
			l[i].Name = random(r, allBytes(), 5)
		case 1:
			l[i].Value = random(r, allBytes(), 5)
		case 2:
			l[i].Value = value
		case 3:
			l[i].Name = pick(r, "Host", "host", "HOST")
		}
	}
	return l
}

func TestParseOfFormat(t *testing.T) {
	r := rand.New(rand.NewSource(4))
	written := 0
	for range 10000 {
		fields := randomFields(r)
		a := api.Reply{Status: pick(r, 200, 100+r.Intn(500), randomNumber(r)), Reason: random(r, valueBytes(), 10), Minor: pick(r, 0, 1, r.Intn(3)), Fields: fields}
		checkReply(t, a)
		at := r.Intn(len(fields) + 1)
		fields = slices.Insert(slices.Clone(fields), at, api.Field{Name: pick(r, "Host", "hOST"), Value: random(r, letters, 3)})
		q := api.Request{Method: "a" + random(r, tokenBytes, 5), Target: "/" + random(r, letters+"?!~", 10), Minor: pick(r, 0, 1, 1, randomNumber(r)), Fields: fields}
		checkRequest(t, q)
		if r.Intn(10) == 0 {
			q.Method, a.Reason = random(r, allBytes(), 4), random(r, allBytes(), 4)
			checkRequest(t, q)
			checkReply(t, a)
		}
		if len(head.FormatRequest(q)) > 0 && len(head.FormatReply(a)) > 0 {
			written++
		}
	}
	if written < 2000 {
		t.Errorf("only %d messages were written", written)
	}
}

// A message of at most 64 fields is read again; one of more is written, and refused.
func TestParseOfFormatOfManyFields(t *testing.T) {
	for n := 60; n <= 70; n++ {
		fields := append(repeated(n-1), of("Host", "a")...)
		want := api.OK
		if n > 64 {
			want = api.ErrLimit
		}
		r := api.Request{Method: "GET", Target: "/", Minor: 1, Fields: fields}
		if again, e := head.ParseRequest(head.FormatRequest(r)); e != want || e == api.OK && !sameRequest(again, r) {
			t.Errorf("a request of %d fields is read as %#v, %d", n, again, e)
		}
		a := api.Reply{Status: 200, Minor: 1, Fields: fields}
		if again, e := head.ParseReply(head.FormatReply(a)); e != want || e == api.OK && !sameReply(again, a) {
			t.Errorf("a reply of %d fields is read as %#v, %d", n, again, e)
		}
	}
}

// A request whose fields Host are not as required is written, and refused.
func TestParseOfFormatOfHosts(t *testing.T) {
	for hosts := range 4 {
		for minor := range 2 {
			r := api.Request{Method: "GET", Target: "/", Minor: minor, Fields: slices.Repeat(of("Host", "a"), hosts)}
			want := api.ErrSyntax
			if hosts == 1 || hosts == 0 && minor == 0 {
				want = api.OK
			}
			b := head.FormatRequest(r)
			if again, e := head.ParseRequest(b); len(b) == 0 || e != want || e == api.OK && !sameRequest(again, r) {
				t.Errorf("%#v is written %q and read as %#v, %d", r, b, again, e)
			}
			a := api.Reply{Status: 200, Minor: minor, Fields: r.Fields}
			if again, e := head.ParseReply(head.FormatReply(a)); e != api.OK || !sameReply(again, a) {
				t.Errorf("a reply with %d fields Host is read as %#v, %d", hosts, again, e)
			}
		}
	}
}

// A line that begins with a blank is refused, wherever it stands and whatever it contains.
func TestFoldedLines(t *testing.T) {
	lines := []string{"Host: a", "A: b", "B:"}
	for _, blank := range []string{" ", "\t", "  ", "\t "} {
		for _, folded := range []string{"", "c", "C: d", "Host: a", ":"} {
			for at := range len(lines) + 1 {
				fields := strings.Join(slices.Insert(slices.Clone(lines), at, blank+folded), end) + headEnd
				if r, e := head.ParseRequest([]byte(get + fields)); !sameRequest(r, api.Request{}) || e != api.ErrSyntax {
					t.Errorf("ParseRequest(%q) = %#v, %d", get+fields, r, e)
				}
				if a, e := head.ParseReply([]byte(ok + fields)); !sameReply(a, api.Reply{}) || e != api.ErrSyntax {
					t.Errorf("ParseReply(%q) = %#v, %d", ok+fields, a, e)
				}
				checkParse(t, get+fields)
				checkParse(t, ok+fields)
			}
		}
	}
}

// The general rules.

// R2: the bytes behind the end of a slice belong to its owner, and do not count.
func TestSpareCapacityStays(t *testing.T) {
	for _, s := range samples {
		for at := range len(s) + 1 {
			b, array := spare(s[:at])
			before := bytes.Clone(array)
			n, e := head.End(b, len(array))
			if want, wantE := wantEnd(s[:at], len(array)); n != want || e != wantE {
				t.Errorf("End(%q, %d) = %d, %d", b, len(array), n, e)
			}
			r, e := head.ParseRequest(b)
			if want, wantE := wantRequest(s[:at]); !sameRequest(r, want) || e != wantE {
				t.Errorf("ParseRequest(%q) = %#v, %d", b, r, e)
			}
			a, e := head.ParseReply(b)
			if want, wantE := wantReply(s[:at]); !sameReply(a, want) || e != wantE {
				t.Errorf("ParseReply(%q) = %#v, %d", b, a, e)
			}
			if !bytes.Equal(array, before) {
				t.Errorf("%q is changed to %q", before, array)
			}
		}
	}
}

func TestParseSharesNothing(t *testing.T) {
	s := "POST /a HTTP/1.1\r\nHost: b\r\nX: c d\r\n\r\n"
	b, array := spare(s)
	r, _ := head.ParseRequest(b)
	again, _ := head.ParseRequest(b)
	want, _ := wantRequest(s)
	again.Fields[0] = api.Field{}
	clear(again.Fields[:cap(again.Fields)])
	overwrite(array)
	if !sameRequest(r, want) {
		t.Errorf("the request is changed to %#v", r)
	}

	s = ok + "A: b\r\nC: d\r\n\r\n"
	b, array = spare(s)
	a, _ := head.ParseReply(b)
	other, _ := head.ParseReply(b)
	wantA, _ := wantReply(s)
	clear(other.Fields[:cap(other.Fields)])
	overwrite(array)
	if !sameReply(a, wantA) {
		t.Errorf("the reply is changed to %#v", a)
	}
}

func TestFormatSharesNothing(t *testing.T) {
	whole := of("Host", "a", "X", "b", "a b", "\n")
	r := api.Request{Method: "GET", Target: "/", Minor: 1, Fields: whole[:2], Body: []byte("body")}
	b, other := head.FormatRequest(r), head.FormatRequest(r)
	overwrite(other)
	if string(b) != get+host+"X: b\r\n\r\n" || string(head.FormatRequest(r)) != string(b) || string(r.Body) != "body" || !slices.Equal(whole, of("Host", "a", "X", "b", "a b", "\n")) {
		t.Errorf("FormatRequest = %q, and the fields are %q", b, whole)
	}
	a := api.Reply{Status: 200, Reason: "OK", Minor: 1, Fields: whole[:2], Body: []byte("body")}
	b, other = head.FormatReply(a), head.FormatReply(a)
	overwrite(other)
	if string(b) != ok+host+"X: b\r\n\r\n" || string(head.FormatReply(a)) != string(b) || string(a.Body) != "body" || !slices.Equal(whole, of("Host", "a", "X", "b", "a b", "\n")) {
		t.Errorf("FormatReply = %q, and the fields are %q", b, whole)
	}
}

// Great heads are treated as small ones are.
func TestGreat(t *testing.T) {
	long, lines := strings.Repeat("x", 300000), strings.Repeat("a: b\r\n", 60000)
	for _, x := range []struct {
		s string
		e api.Errno
	}{
		{get + "Host: " + long + headEnd, api.OK},
		{"GET /" + long + " HTTP/1.1" + end + host + end, api.OK},
		{get + host + long + ": " + long + headEnd, api.OK},
		{get + host + long + headEnd, api.ErrSyntax},
		{get + host + "A: " + long + "\r" + headEnd, api.ErrSyntax},
		{get + host + "A: " + long + "\n" + headEnd, api.ErrSyntax},
		{get + host + lines + end, api.ErrLimit},
		{get + host + lines + "x\ry" + headEnd, api.ErrSyntax},
		{get + host + lines + "x\ny" + headEnd, api.ErrSyntax},
		{get + host + lines, api.ErrSyntax},
		{"GET / HTTP/2.0" + end + lines + end, api.ErrUnknown},
		{strings.Repeat("\r", 300000) + headEnd, api.ErrSyntax},
		{strings.Repeat("\r\n", 150000), api.ErrSyntax},
		{strings.Repeat("\n", 300000), api.ErrSyntax},
		{old + strings.Repeat("x\r\n", 100000) + end, api.ErrLimit},
	} {
		r, e := head.ParseRequest([]byte(x.s))
		if want, wantE := wantRequest(x.s); !sameRequest(r, want) || e != wantE || e != x.e {
			t.Errorf("ParseRequest of %q.. = %d, want %d", x.s[:20], e, x.e)
		}
		n, e := head.End([]byte(x.s), len(x.s))
		at := strings.Index(x.s, headEnd)
		if at >= 0 && (n != at+len(headEnd) || e != api.OK) || at < 0 && (n != 0 || e != api.ErrLimit) {
			t.Errorf("End of %q.. = %d, %d", x.s[:20], n, e)
		}
		if n, e := head.End([]byte(x.s), len(x.s)+1); at < 0 && (n != 0 || e != api.ErrMore) {
			t.Errorf("End of %q.. = %d, %d", x.s[:20], n, e)
		}
	}
	checkRequest(t, api.Request{Method: long, Target: "/" + long, Minor: 1, Fields: of("Host", "a", "A", long)})
	checkReply(t, api.Reply{Status: 200, Reason: long, Fields: of(long, long)})
	a := api.Reply{Status: 200, Reason: "OK", Minor: 1, Fields: repeated(60000)}
	if got := string(head.FormatReply(a)); got != ok+lines+end {
		t.Errorf("FormatReply of many fields has %d bytes", len(got))
	}
	if got := head.FormatReply(api.Reply{Status: 200, Minor: 1, Fields: append(a.Fields, of("A", "\n")...)}); len(got) != 0 {
		t.Errorf("FormatReply of many fields with a bad one has %d bytes", len(got))
	}
}
