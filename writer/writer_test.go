package writer_test

import (
	"bytes"
	"fmt"
	"math"
	"math/rand"
	"regexp"
	"slices"
	"strings"
	"testing"

	"canary/api"
	"canary/reader"
	"canary/writer"
)

// Each promise is checked on named cases, on messages with all combinations of
// faults, on every part that differs from a good one in a single byte, on all
// statuses and the numbers around them, and on arbitrary bytes, numbers and
// messages, those that can be written and others, against an oracle of regular
// expressions that calls no other layer. Only what is read again (P12.4) is read
// by layer 11.

const (
	end     = "\r\n"
	headEnd = "\r\n\r\n"
	get     = "GET / HTTP/1.1\r\n"
	ok      = "HTTP/1.1 200 OK\r\n"
	host    = "Host: a\r\n"
)

const (
	letters    = "ABCDEFGHIJKLMNOPQRSTUVWXYZabcdefghijklmnopqrstuvwxyz"
	digits     = "0123456789"
	tokenBytes = letters + digits + "!#$%&'*+-.^_`|~"
)

// These speak of runes, one for each byte (see wide).
var (
	tokenForm  = regexp.MustCompile("^[-A-Za-z0-9!#$%&'*+.^_`|~]+$")
	targetForm = regexp.MustCompile(`^/[!"$-~]*$`)
	reasonForm = regexp.MustCompile(`^[\t -~\x{80}-\x{ff}]*$`)
	valueForm  = regexp.MustCompile(`^([!-~\x{80}-\x{ff}]([\t -~\x{80}-\x{ff}]*[!-~\x{80}-\x{ff}])?)?$`)
)

// wantReasons are the reasons that are not Error, as the document lists them.
const wantReasons = "OK for 200, Bad Request for 400, Not Found for 404, Method Not Allowed for 405, " +
	"Request Timeout for 408, Conflict for 409, Content Too Large for 413, Request Header Fields Too Large for 431, " +
	"Bad Gateway for 502, Service Unavailable for 503, Gateway Timeout for 504, HTTP Version Not Supported for 505"

// wide returns a string with a rune for each byte of s, so that the expressions speak of bytes.
func wide(s string) string {
	runes := make([]rune, len(s))
	for i := range len(s) {
		runes[i] = rune(s[i])
	}
	return string(runes)
}

func wantReason(status int) string {
	for _, x := range strings.Split(wantReasons, ", ") {
		reason, of, _ := strings.Cut(x, " for ")
		if of == fmt.Sprint(status) {
			return reason
		}
	}
	return "Error"
}

func wantMake(status int, kind, body string, more []api.Field) api.Reply {
	fields := of("Content-Type", kind, "Content-Length", fmt.Sprint(len(body)))
	for _, f := range more {
		fields = append(fields, f)
	}
	return api.Reply{Status: status, Reason: wantReason(status), Minor: 1, Fields: fields, Body: []byte(body)}
}

// wantMessage returns the message with this start line, or nothing if that or a field cannot be written.
func wantMessage(start string, good bool, fields []api.Field, body []byte) string {
	text := start + end
	for _, f := range fields {
		good = good && tokenForm.MatchString(wide(f.Name)) && valueForm.MatchString(wide(f.Value))
		text += fmt.Sprintf("%s: %s\r\n", f.Name, f.Value)
	}
	if !good {
		return ""
	}
	return text + end + string(body)
}

func wantRequest(r api.Request) string {
	good := tokenForm.MatchString(wide(r.Method)) && targetForm.MatchString(wide(r.Target)) && (r.Minor == 0 || r.Minor == 1)
	return wantMessage(fmt.Sprintf("%s %s HTTP/1.%d", r.Method, r.Target, r.Minor), good, r.Fields, r.Body)
}

func wantReply(a api.Reply) string {
	good := a.Status >= 100 && a.Status < 600 && reasonForm.MatchString(wide(a.Reason)) && (a.Minor == 0 || a.Minor == 1)
	return wantMessage(fmt.Sprintf("HTTP/1.%d %d %s", a.Minor, a.Status, a.Reason), good, a.Fields, a.Body)
}

func sameReply(a, b api.Reply) bool {
	return a.Status == b.Status && a.Reason == b.Reason && a.Minor == b.Minor &&
		slices.Equal(a.Fields, b.Fields) && slices.Equal(a.Body, b.Body)
}

// checkRequest compares Request with the oracle, twice, since nothing is kept
// from call to call, and looks whether the argument is changed.
func checkRequest(t *testing.T, r api.Request) {
	t.Helper()
	fields, body, want := slices.Clone(r.Fields), bytes.Clone(r.Body), wantRequest(r)
	for range 2 {
		if b := writer.Request(r); string(b) != want {
			t.Fatalf("Request(%#v) = %q, want %q", r, b, want)
		}
	}
	if !slices.Equal(r.Fields, fields) || !bytes.Equal(r.Body, body) {
		t.Fatalf("the request is changed to %#v", r)
	}
}

func checkReply(t *testing.T, a api.Reply) {
	t.Helper()
	fields, body, want := slices.Clone(a.Fields), bytes.Clone(a.Body), wantReply(a)
	for range 2 {
		if b := writer.Reply(a); string(b) != want {
			t.Fatalf("Reply(%#v) = %q, want %q", a, b, want)
		}
	}
	if !slices.Equal(a.Fields, fields) || !bytes.Equal(a.Body, body) {
		t.Fatalf("the reply is changed to %#v", a)
	}
}

// checkMake compares Make and Text with the oracle, and what is written of their replies.
func checkMake(t *testing.T, status int, kind, body string, more ...api.Field) {
	t.Helper()
	before := slices.Clone(more)
	for range 2 {
		a, want := writer.Make(status, kind, body, more...), wantMake(status, kind, body, before)
		if !sameReply(a, want) {
			t.Fatalf("Make(%d, %q, %q, %q) = %#v, want %#v", status, kind, body, before, a, want)
		}
		checkReply(t, a)
		a, want = writer.Text(status, body, more...), wantMake(status, "text/plain", body, before)
		if !sameReply(a, want) {
			t.Fatalf("Text(%d, %q, %q) = %#v, want %#v", status, body, before, a, want)
		}
		checkReply(t, a)
	}
	if !slices.Equal(more, before) {
		t.Fatalf("%q are changed to %q", before, more)
	}
}

func allBytes() string {
	b := make([]byte, 256)
	for i := range b {
		b[i] = byte(i)
	}
	return string(b)
}

// valueBytes returns the bytes that may stand in a value or a reason.
func valueBytes() string {
	all := allBytes()
	return all[9:10] + all[32:127] + all[128:]
}

// words returns all strings of at most n bytes of the alphabet.
func words(alphabet string, n int) []string {
	l := []string{""}
	for first := 0; n > 0; n-- {
		last := len(l)
		for _, w := range l[first:last] {
			for i := range len(alphabet) {
				l = append(l, w+alphabet[i:i+1])
			}
		}
		first = last
	}
	return l
}

// edits returns the strings that differ from s in one byte that is missing,
// replaced or added, for every byte there is, and s.
func edits(s string) []string {
	all := allBytes()
	l := []string{s}
	for at := range len(s) + 1 {
		for i := range all {
			l = append(l, s[:at]+all[i:i+1]+s[at:])
			if at < len(s) {
				l = append(l, s[:at]+all[i:i+1]+s[at+1:])
			}
		}
		if at < len(s) {
			l = append(l, s[:at]+s[at+1:])
		}
	}
	return l
}

func random(r *rand.Rand, alphabet string, most int) string {
	b := make([]byte, r.Intn(most+1))
	for i := range b {
		b[i] = alphabet[r.Intn(len(alphabet))]
	}
	return string(b)
}

func pick[E any](r *rand.Rand, l ...E) E { return l[r.Intn(len(l))] }

func randomNumber(r *rand.Rand) int {
	return pick(r, 0, 1, 2, -1, 99, 100, 200, 404, 599, 600, r.Intn(1000), -r.Intn(1000), int(r.Uint64()), math.MaxInt, math.MinInt, 1<<32+r.Intn(600))
}

// of makes fields of names and values.
func of(l ...string) []api.Field {
	var fields []api.Field
	for i := 0; i < len(l); i += 2 {
		fields = append(fields, api.Field{Name: l[i], Value: l[i+1]})
	}
	return fields
}

// repeated returns n fields a: b.
func repeated(n int) []api.Field {
	return slices.Repeat(of("a", "b"), n)
}

// overwrite changes all bytes of b, and of the memory behind it that belongs to it.
func overwrite(b []byte) {
	b = b[:cap(b)]
	for i := range b {
		b[i] ^= 0x55
	}
}

// overwriteFields does the same with fields.
func overwriteFields(l []api.Field) {
	l = l[:cap(l)]
	for i := range l {
		l[i] = api.Field{Name: "overwritten", Value: "overwritten"}
	}
}

// bodies are looked at by no function, so that each of them is written as it is.
var bodies = []string{"", "x", "no\n", end, headEnd, "\x00", "\xff\x80", get + host + end, ok + end, "0\r\n\r\n", strings.Repeat("ab", 700)}

// P12.1

func TestRequest(t *testing.T) {
	for _, x := range []struct {
		r    api.Request
		want string
	}{
		{api.Request{Method: "GET", Target: "/", Minor: 1, Fields: of("Host", "a")}, get + host + end},
		{api.Request{Method: "GET", Target: "/", Minor: 1, Fields: of("Host", "a"), Body: []byte{}}, get + host + end},
		{api.Request{Method: "GET", Target: "/", Minor: 1, Body: []byte("x")}, get + end + "x"},
		{api.Request{Method: "GET", Target: "/"}, "GET / HTTP/1.0\r\n\r\n"},
		{api.Request{Method: "POST", Target: "/a?b", Minor: 1, Fields: of("Host", "a", "Content-Length", "3"), Framed: true, Body: []byte("abc")}, "POST /a?b HTTP/1.1\r\nHost: a\r\nContent-Length: 3\r\n\r\nabc"},
		{api.Request{Method: "POST", Target: "/", Minor: 1, Fields: of("Host", "a"), Framed: true, Body: []byte("abc")}, "POST / HTTP/1.1\r\nHost: a\r\n\r\nabc"},
		{api.Request{Method: "POST", Target: "/", Minor: 1, Fields: of("Host", "a"), Framed: true}, "POST / HTTP/1.1\r\nHost: a\r\n\r\n"},
		{api.Request{Method: "POST", Target: "/", Minor: 1, Fields: of("Content-Length", "7", "Host", "a", "Content-Length", "x"), Body: []byte("abc")}, "POST / HTTP/1.1\r\nContent-Length: 7\r\nHost: a\r\nContent-Length: x\r\n\r\nabc"},
		{api.Request{Method: "POST", Target: "/", Minor: 1, Fields: of("Transfer-Encoding", "chunked"), Body: []byte("abc")}, "POST / HTTP/1.1\r\nTransfer-Encoding: chunked\r\n\r\nabc"},
		{api.Request{Method: "x", Target: "/", Fields: of("a", "\xff", "A", ""), Body: []byte("\x00\r\n\xff")}, "x / HTTP/1.0\r\na: \xff\r\nA: \r\n\r\n\x00\r\n\xff"},

		{api.Request{}, ""}, {api.Request{Body: []byte("x")}, ""}, {api.Request{Framed: true, Fields: of("Host", "a"), Body: []byte("x")}, ""},
		{api.Request{Target: "/", Minor: 1, Body: []byte("x")}, ""}, {api.Request{Method: "GET", Minor: 1, Body: []byte("x")}, ""}, {api.Request{Method: "GET", Target: "a", Minor: 1, Body: []byte("x")}, ""},
		{api.Request{Method: "GET", Target: "/", Minor: 2, Body: []byte("x")}, ""}, {api.Request{Method: "GET", Target: "/", Minor: -1, Body: []byte("x")}, ""}, {api.Request{Method: "G T", Target: "/", Minor: 1, Body: []byte("x")}, ""},
		{api.Request{Method: "GET", Target: "/", Minor: 1, Fields: of("", "a"), Body: []byte("x")}, ""}, {api.Request{Method: "GET", Target: "/", Minor: 1, Fields: of("Host", "a", "A", "b\r\nC: d"), Body: []byte("x")}, ""}, {api.Request{Method: "GET", Target: "/", Minor: 1, Fields: of("A", " ", "Host", "a"), Body: []byte(get + host + end)}, ""},
	} {
		if b := writer.Request(x.r); string(b) != x.want {
			t.Errorf("Request(%#v) = %q, want %q", x.r, b, x.want)
		}
		checkRequest(t, x.r)
	}
}

func TestReply(t *testing.T) {
	for _, x := range []struct {
		a    api.Reply
		want string
	}{
		{api.Reply{Status: 200, Reason: "OK", Minor: 1}, ok + end},
		{api.Reply{Status: 200, Reason: "OK", Minor: 1, Body: []byte{}}, ok + end},
		{api.Reply{Status: 200, Reason: "OK", Minor: 1, Body: []byte("x")}, ok + end + "x"},
		{api.Reply{Status: 200, Reason: "OK", Minor: 1, Fields: of("Content-Length", "3"), Body: []byte("abc")}, ok + "Content-Length: 3\r\n\r\nabc"},
		{api.Reply{Status: 200, Reason: "OK", Minor: 1, Fields: of("Content-Length", "7"), Body: []byte("abc")}, ok + "Content-Length: 7\r\n\r\nabc"},
		{api.Reply{Status: 200, Reason: "OK", Minor: 1, Fields: of("Transfer-Encoding", "chunked"), Body: []byte("abc")}, ok + "Transfer-Encoding: chunked\r\n\r\nabc"},
		{api.Reply{Status: 204, Body: []byte("x")}, "HTTP/1.0 204 \r\n\r\nx"},
		{api.Reply{Status: 404, Reason: "OK", Minor: 1}, "HTTP/1.1 404 OK\r\n\r\n"},
		{api.Reply{Status: 404, Minor: 1}, "HTTP/1.1 404 \r\n\r\n"},
		{api.Reply{Status: 100, Reason: " \x80 ", Fields: of("A", "b", "a", ""), Body: []byte("\x00\r\n\xff")}, "HTTP/1.0 100  \x80 \r\nA: b\r\na: \r\n\r\n\x00\r\n\xff"},
		{writer.Text(404, "no\n", of("A", "b")...), "HTTP/1.1 404 Not Found\r\nContent-Type: text/plain\r\nContent-Length: 3\r\nA: b\r\n\r\nno\n"},
		{writer.Make(200, "application/json", "{}\n"), ok + "Content-Type: application/json\r\nContent-Length: 3\r\n\r\n{}\n"},
		{writer.Make(299, "", ""), "HTTP/1.1 299 Error\r\nContent-Type: \r\nContent-Length: 0\r\n\r\n"},

		{api.Reply{}, ""}, {api.Reply{Body: []byte("x")}, ""}, {api.Reply{Reason: "OK", Minor: 1, Fields: of("A", "b"), Body: []byte("x")}, ""},
		{api.Reply{Status: 99, Minor: 1, Body: []byte("x")}, ""}, {api.Reply{Status: 600, Minor: 1, Body: []byte("x")}, ""}, {api.Reply{Status: -200, Minor: 1, Body: []byte("x")}, ""},
		{api.Reply{Status: 200, Minor: 2, Body: []byte("x")}, ""}, {api.Reply{Status: 200, Minor: -1, Body: []byte("x")}, ""}, {api.Reply{Status: 200, Reason: "\n", Minor: 1, Body: []byte("x")}, ""},
		{api.Reply{Status: 200, Minor: 1, Fields: of("", "a"), Body: []byte("x")}, ""}, {api.Reply{Status: 200, Minor: 1, Fields: of("A", "b", "A", "b\r\nC: d"), Body: []byte("x")}, ""}, {api.Reply{Status: 200, Minor: 1, Fields: of("A", " ", "A", "b"), Body: []byte(ok + end)}, ""},
		{writer.Text(99, "x"), ""}, {writer.Text(600, "x"), ""}, {writer.Make(200, "a\n", "x"), ""}, {writer.Make(200, " a", "x"), ""}, {writer.Text(200, "x", of("", "")...), ""}, {writer.Text(200, "x", of("A", "b\r\n")...), ""},
	} {
		if b := writer.Reply(x.a); string(b) != x.want {
			t.Errorf("Reply(%#v) = %q, want %q", x.a, b, x.want)
		}
		checkReply(t, x.a)
	}
}

// All combinations of faults: with any of them nothing is written, whatever the body is.
func TestFaults(t *testing.T) {
	for _, body := range bodies {
		for faults := range 1 << 5 {
			parts := []string{"GET", "/", "A", "b", "c"}
			for i, bad := range []string{"G T", "*", "A:", "b\r", "\n"} {
				if faults>>i&1 == 1 {
					parts[i] = bad
				}
			}
			fields := of("Host", "a", parts[2], parts[3])
			for _, minor := range []int{0, 1, 2, -1} {
				for _, framed := range []bool{false, true} {
					checkRequest(t, api.Request{Method: parts[0], Target: parts[1], Minor: minor, Fields: fields, Framed: framed, Body: []byte(body)})
				}
				for _, status := range []int{99, 100, 204, 304, 599, 600} {
					checkReply(t, api.Reply{Status: status, Reason: parts[4], Minor: minor, Fields: fields, Body: []byte(body)})
				}
			}
		}
	}
}

func TestNumbersOfTheStartLine(t *testing.T) {
	for minor := -2; minor < 12; minor++ {
		for status := -10; status < 700; status++ {
			checkReply(t, api.Reply{Status: status, Reason: "a", Minor: minor, Fields: of("A", "b"), Body: []byte("x")})
		}
		checkRequest(t, api.Request{Method: "GET", Target: "/", Minor: minor, Fields: of("Host", "b"), Body: []byte("x")})
	}
	for _, n := range []int{math.MinInt, math.MinInt + 1, math.MaxInt - 1, math.MaxInt, 1 << 32, 1<<32 + 1, -1 << 32} {
		checkRequest(t, api.Request{Method: "GET", Target: "/", Minor: n, Body: []byte("x")})
		checkReply(t, api.Reply{Status: 200, Minor: n, Body: []byte("x")})
		checkReply(t, api.Reply{Status: n, Minor: 1, Body: []byte("x")})
		checkReply(t, api.Reply{Status: n + 200, Minor: 1, Body: []byte("x")})
	}
}

// Each byte counts, in each part of a message but the body.
func TestAllBytes(t *testing.T) {
	body := []byte("x")
	for _, s := range []string{"", "a", "/", "a b"} {
		for _, x := range edits(s) {
			checkRequest(t, api.Request{Method: x, Target: "/", Minor: 1, Fields: of("Host", "a"), Body: body})
			checkRequest(t, api.Request{Method: "GET", Target: x, Minor: 1, Fields: of("Host", "a"), Body: body})
			checkReply(t, api.Reply{Status: 200, Reason: x, Minor: 1, Body: body})
			for _, fields := range [][]api.Field{of("Host", "a", x, "b"), of("A", x, "Host", "a"), of("Host", x)} {
				checkRequest(t, api.Request{Method: "GET", Target: "/", Minor: 1, Fields: fields, Body: body})
				checkReply(t, api.Reply{Status: 200, Reason: "OK", Fields: fields, Body: body})
			}
			checkRequest(t, api.Request{Method: "GET", Target: "/", Minor: 1, Body: []byte(x)})
			checkReply(t, api.Reply{Status: 200, Reason: "OK", Minor: 1, Body: []byte(x)})
		}
	}
}

// A body is written as it is, also if it looks like a part of a head.
func TestAllShortBodies(t *testing.T) {
	for _, body := range words("\r\n: \x00a", 5) {
		r := api.Request{Method: "GET", Target: "/", Minor: 1, Fields: of("Host", "a"), Body: []byte(body)}
		if b := writer.Request(r); string(b) != get+host+end+body {
			t.Fatalf("Request with the body %q = %q", body, b)
		}
		a := api.Reply{Status: 200, Reason: "OK", Minor: 1, Body: []byte(body)}
		if b := writer.Reply(a); string(b) != ok+end+body {
			t.Fatalf("Reply with the body %q = %q", body, b)
		}
		if a.Fields = of("A:", "b"); len(writer.Reply(a)) > 0 {
			t.Fatalf("Reply with a bad field and the body %q = %q", body, writer.Reply(a))
		}
		if r.Method = ""; len(writer.Request(r)) > 0 {
			t.Fatalf("Request without a method and with the body %q = %q", body, writer.Request(r))
		}
	}
}

func randomFields(r *rand.Rand, rate int) []api.Field {
	l := make([]api.Field, pick(r, 0, 1, r.Intn(5), r.Intn(80)))
	for i := range l {
		name := pick(r, "A", "Host", "Content-Length", "content-type", "Transfer-Encoding", "a"+random(r, tokenBytes, 9))
		l[i] = api.Field{Name: name, Value: pick(r, "", "0", "7", "chunked", strings.Trim(random(r, valueBytes(), 12), " \t"))}
		if r.Intn(rate) == 0 {
			l[i].Name = random(r, allBytes(), 5)
		}
		if r.Intn(rate) == 0 {
			l[i].Value = random(r, allBytes(), 5)
		}
	}
	return l
}

func TestArbitraryMessages(t *testing.T) {
	r := rand.New(rand.NewSource(1))
	written, others := 0, 0
	for range 20000 {
		body := []byte(pick(r, random(r, allBytes(), 30), pick(r, bodies...)))
		rate := pick(r, 1000000, 100, 10)
		q := api.Request{Method: "a" + random(r, tokenBytes, 5), Target: "/" + random(r, letters+"?!~", 10), Minor: r.Intn(2), Fields: randomFields(r, rate), Framed: r.Intn(2) == 0, Body: body}
		a := api.Reply{Status: 100 + r.Intn(500), Reason: random(r, valueBytes(), 10), Minor: r.Intn(2), Fields: randomFields(r, rate), Body: body}
		switch r.Intn(20) {
		case 0:
			q.Minor, a.Minor = randomNumber(r), randomNumber(r)
		case 1:
			q.Method, a.Reason = random(r, allBytes(), 4), random(r, allBytes(), 4)
		case 2:
			q.Target, a.Status = random(r, allBytes(), 4), randomNumber(r)
		}
		checkRequest(t, q)
		checkReply(t, a)
		for _, s := range []string{wantRequest(q), wantReply(a)} {
			if s == "" {
				others++
			} else {
				written++
			}
		}
	}
	if written < 5000 || others < 5000 {
		t.Errorf("%d messages can be written, and %d cannot", written, others)
	}
}

// A message whose Content-Length is the length of its body is read again.
func TestRequestIsRead(t *testing.T) {
	for _, body := range bodies {
		r := api.Request{Method: "POST", Target: "/a", Minor: 1, Fields: of("Host", "a", "Content-Length", fmt.Sprint(len(body))), Framed: true, Body: []byte(body)}
		b := writer.Request(r)
		state, got := readMessage(t, reader.ForRequest(), string(b), "GET /", len(b), len(body), len(body)+1)
		q := state.Request
		if got != body || q.Method != "POST" || q.Target != "/a" || q.Minor != 1 || !q.Framed || !slices.Equal(q.Fields, r.Fields) {
			t.Errorf("%q is read as %#v with the body %q", b, q, got)
		}
	}
}

// P12.2

func TestMake(t *testing.T) {
	for _, x := range []struct {
		got, want api.Reply
	}{
		{writer.Make(299, "a/b", ""), api.Reply{Status: 299, Reason: "Error", Minor: 1, Fields: of("Content-Type", "a/b", "Content-Length", "0")}},
		{writer.Make(200, "application/json", "{}\n"), api.Reply{Status: 200, Reason: "OK", Minor: 1, Fields: of("Content-Type", "application/json", "Content-Length", "3"), Body: []byte("{}\n")}},
		{writer.Make(200, "", "x"), api.Reply{Status: 200, Reason: "OK", Minor: 1, Fields: of("Content-Type", "", "Content-Length", "1"), Body: []byte("x")}},
		{writer.Make(200, " \r\n", "x"), api.Reply{Status: 200, Reason: "OK", Minor: 1, Fields: of("Content-Type", " \r\n", "Content-Length", "1"), Body: []byte("x")}},
		{writer.Make(505, "a", strings.Repeat("\xff\x00", 5)), api.Reply{Status: 505, Reason: "HTTP Version Not Supported", Minor: 1, Fields: of("Content-Type", "a", "Content-Length", "10"), Body: []byte("\xff\x00\xff\x00\xff\x00\xff\x00\xff\x00")}},
		{writer.Make(404, "a", "b", of("C", "d")...), api.Reply{Status: 404, Reason: "Not Found", Minor: 1, Fields: of("Content-Type", "a", "Content-Length", "1", "C", "d"), Body: []byte("b")}},
		{writer.Make(404, "a", "b", of("D", "1", "C", "2", "D", "1")...), api.Reply{Status: 404, Reason: "Not Found", Minor: 1, Fields: of("Content-Type", "a", "Content-Length", "1", "D", "1", "C", "2", "D", "1"), Body: []byte("b")}},
		{writer.Make(404, "a", "b", of("content-type", "c", "Content-Length", "9", "", "\n")...), api.Reply{Status: 404, Reason: "Not Found", Minor: 1, Fields: of("Content-Type", "a", "Content-Length", "1", "content-type", "c", "Content-Length", "9", "", "\n"), Body: []byte("b")}},
		{writer.Make(0, "a", "b"), api.Reply{Reason: "Error", Minor: 1, Fields: of("Content-Type", "a", "Content-Length", "1"), Body: []byte("b")}},
		{writer.Make(-404, "a", "b"), api.Reply{Status: -404, Reason: "Error", Minor: 1, Fields: of("Content-Type", "a", "Content-Length", "1"), Body: []byte("b")}},
		{writer.Make(204, "a", "b"), api.Reply{Status: 204, Reason: "Error", Minor: 1, Fields: of("Content-Type", "a", "Content-Length", "1"), Body: []byte("b")}},
		{writer.Make(math.MaxInt, "a", ""), api.Reply{Status: math.MaxInt, Reason: "Error", Minor: 1, Fields: of("Content-Type", "a", "Content-Length", "0")}},
		{writer.Make(math.MinInt, "a", ""), api.Reply{Status: math.MinInt, Reason: "Error", Minor: 1, Fields: of("Content-Type", "a", "Content-Length", "0")}},

		{writer.Text(404, "no\n"), api.Reply{Status: 404, Reason: "Not Found", Minor: 1, Fields: of("Content-Type", "text/plain", "Content-Length", "3"), Body: []byte("no\n")}},
		{writer.Text(200, ""), api.Reply{Status: 200, Reason: "OK", Minor: 1, Fields: of("Content-Type", "text/plain", "Content-Length", "0")}},
		{writer.Text(408, "\u00e9"), api.Reply{Status: 408, Reason: "Request Timeout", Minor: 1, Fields: of("Content-Type", "text/plain", "Content-Length", "2"), Body: []byte("\xc3\xa9")}},
		{writer.Text(503, "x", of("Connection", "close", "A", "")...), api.Reply{Status: 503, Reason: "Service Unavailable", Minor: 1, Fields: of("Content-Type", "text/plain", "Content-Length", "1", "Connection", "close", "A", ""), Body: []byte("x")}},
		{writer.Text(7, "x", of("Content-Type", "a")...), api.Reply{Status: 7, Reason: "Error", Minor: 1, Fields: of("Content-Type", "text/plain", "Content-Length", "1", "Content-Type", "a"), Body: []byte("x")}},
	} {
		if !sameReply(x.got, x.want) {
			t.Errorf("%#v, want %#v", x.got, x.want)
		}
	}
}

// R5: no more fields are the same as nil and as none of a list.
func TestMakeWithoutMore(t *testing.T) {
	var none []api.Field
	for _, a := range []api.Reply{writer.Make(409, "text/plain", "x"), writer.Make(409, "text/plain", "x", none...), writer.Make(409, "text/plain", "x", []api.Field{}...), writer.Text(409, "x"), writer.Text(409, "x", none...), writer.Text(409, "x", []api.Field{}...)} {
		if !sameReply(a, wantMake(409, "text/plain", "x", nil)) {
			t.Errorf("%#v", a)
		}
	}
}

func TestMakeOfLengths(t *testing.T) {
	for n := range 1100 {
		checkMake(t, 200, "a", strings.Repeat("x", n))
	}
	for n := range 100 {
		checkMake(t, 404, "a", "no\n", repeated(n)...)
	}
}

// No byte of an argument means anything here; whether it can be written is another question.
func TestMakeOfAllBytes(t *testing.T) {
	for _, s := range []string{"", "a", "/", "a b"} {
		for _, x := range edits(s) {
			checkMake(t, 404, x, "a")
			checkMake(t, 404, "a", x)
			checkMake(t, 404, "a", "b", of(x, "c")...)
			checkMake(t, 404, "a", "b", of("c", x, "D", "e")...)
		}
	}
	for _, body := range bodies {
		checkMake(t, 200, "text/html", body, of("A", body)...)
	}
}

func TestArbitraryMakes(t *testing.T) {
	r := rand.New(rand.NewSource(2))
	for range 10000 {
		status := pick(r, randomNumber(r), 100+r.Intn(500))
		kind := pick(r, "text/plain", random(r, valueBytes(), 10), random(r, allBytes(), 10))
		body := pick(r, pick(r, bodies...), random(r, allBytes(), 300))
		checkMake(t, status, kind, body, randomFields(r, pick(r, 1000000, 10))...)
	}
}

// P12.3

func TestReasons(t *testing.T) {
	for status, want := range map[int]string{
		200: "OK", 400: "Bad Request", 404: "Not Found", 405: "Method Not Allowed", 408: "Request Timeout", 409: "Conflict",
		413: "Content Too Large", 431: "Request Header Fields Too Large", 502: "Bad Gateway", 503: "Service Unavailable", 504: "Gateway Timeout", 505: "HTTP Version Not Supported",

		0: "Error", 1: "Error", -1: "Error", -200: "Error", -404: "Error", 100: "Error", 101: "Error", 199: "Error", 201: "Error", 204: "Error", 304: "Error",
		399: "Error", 401: "Error", 403: "Error", 406: "Error", 407: "Error", 410: "Error", 412: "Error", 414: "Error", 430: "Error", 432: "Error",
		500: "Error", 501: "Error", 506: "Error", 599: "Error", 600: "Error", 2000: "Error", math.MinInt: "Error", math.MaxInt: "Error",
	} {
		if got := writer.Reason(status); got != want {
			t.Errorf("Reason(%d) = %q, want %q", status, got, want)
		}
	}
}

func TestReasonsOfAllNumbers(t *testing.T) {
	known := 0
	for status := -3000; status < 70000; status++ {
		got, want := writer.Reason(status), wantReason(status)
		if got != want {
			t.Errorf("Reason(%d) = %q, want %q", status, got, want)
		}
		if got != "Error" {
			known++
		}
	}
	if known != 12 {
		t.Errorf("%d statuses have a reason of their own", known)
	}
}

// Only the whole number is a status, not its last bits.
func TestReasonsOfGreatNumbers(t *testing.T) {
	r := rand.New(rand.NewSource(3))
	for status := range 700 {
		for _, bits := range []int{8, 10, 16, 31, 32, 33, 62} {
			for _, n := range []int{status + 1<<bits, status - 1<<bits} {
				if got, want := writer.Reason(n), wantReason(n); got != want {
					t.Errorf("Reason(%d) = %q, want %q", n, got, want)
				}
			}
		}
	}
	for range 10000 {
		n := pick(r, randomNumber(r), int(r.Uint64()))
		if got, want := writer.Reason(n), wantReason(n); got != want {
			t.Errorf("Reason(%d) = %q, want %q", n, got, want)
		}
	}
}

// P12.4

// readMessage reads the message with which s begins, in parts of at most room
// bytes, while after follows it, and returns the reader behind it and its body.
func readMessage(t *testing.T, state api.Reader, s, after string, most, body, room int) (api.Reader, string) {
	t.Helper()
	rest, text := []byte(s+after), ""
	for state.Phase != api.ReadDone {
		next, part, n, e := reader.Next(state, rest, most, body, room)
		if e != api.OK || part.Kind == api.PartNone {
			t.Fatalf("%q is not read: %d, at %q", s, e, rest)
		}
		state, rest, text = next, rest[n:], text+string(part.Data)
	}
	if string(rest) != after {
		t.Fatalf("%q ends before %q", s, rest)
	}
	return state, text
}

// readInPieces does the same with bytes that arrive one by one.
func readInPieces(t *testing.T, state api.Reader, s string, most, body int) (api.Reader, string) {
	t.Helper()
	at, text := 0, ""
	for to := range len(s) + 1 {
		for {
			next, part, n, e := reader.Next(state, []byte(s[at:to]), most, body, 1)
			if e != api.OK {
				t.Fatalf("%q is not read: %d, at %d", s, e, at)
			}
			state, at, text = next, at+n, text+string(part.Data)
			if part.Kind == api.PartNone {
				break
			}
		}
	}
	if state.Phase != api.ReadDone || at != len(s) {
		t.Fatalf("%q ends at %d in the phase %d", s, at, state.Phase)
	}
	return state, text
}

// checkRead looks whether the bytes of a reply are read as this status, this body and these fields.
func checkRead(t *testing.T, status int, text string, more ...api.Field) {
	t.Helper()
	s := string(writer.Reply(writer.Text(status, text, more...)))
	want := wantMake(status, "text/plain", text, more)
	most := len(s) - len(text)
	states := []api.Reader{}
	for _, method := range []string{"GET", "POST", ""} {
		state, body := readMessage(t, reader.ForReply(method), s, "", most, len(text), len(text)+1)
		if body != text {
			t.Fatalf("%q is read with the body %q", s, body)
		}
		states = append(states, state)
	}
	for _, after := range []string{"HTTP/1.1 ", "x", end} {
		state, body := readMessage(t, reader.ForReply("GET"), s, after, most+1, len(text)+1, 1+len(text)/2)
		if body != text {
			t.Fatalf("%q is read with the body %q", s, body)
		}
		states = append(states, state)
	}
	for _, state := range states {
		got := state.Answer
		got.Body = []byte(text)
		if !sameReply(got, want) || state.Frame != (api.Frame{Kind: api.FrameLength, Length: len(text)}) {
			t.Fatalf("%q is read as %#v, want %#v", s, state.Answer, want)
		}
	}
}

func TestTextIsRead(t *testing.T) {
	for status := 200; status < 600; status++ {
		if status == 204 || status == 304 {
			continue
		}
		for _, text := range bodies {
			checkRead(t, status, text)
		}
		checkRead(t, status, "no\n", of("Connection", "close", "A", "\xff", "a", "")...)
	}
}

func TestTextIsReadInPieces(t *testing.T) {
	for status := 200; status < 600; status++ {
		if status == 204 || status == 304 {
			continue
		}
		s := string(writer.Reply(writer.Text(status, "a\r\nb\n")))
		state, body := readInPieces(t, reader.ForReply("GET"), s, len(s), 5)
		got := state.Answer
		got.Body = []byte(body)
		if body != "a\r\nb\n" || !sameReply(got, wantMake(status, "text/plain", body, nil)) {
			t.Errorf("%q is read as %#v with the body %q", s, state.Answer, body)
		}
	}
}

// The other statuses have no body, whatever is written behind the head, or are not those of a reply.
func TestTextOfOtherStatuses(t *testing.T) {
	for _, status := range []int{204, 304} {
		s := string(writer.Reply(writer.Text(status, "no\n")))
		state, body := readMessage(t, reader.ForReply("GET"), strings.TrimSuffix(s, "no\n"), "no\n", len(s), 3, 3)
		if state.Answer.Status != status || body != "" {
			t.Errorf("%q is read as %#v with the body %q", s, state.Answer, body)
		}
	}
	for status := 100; status < 200; status++ {
		b := writer.Reply(writer.Text(status, "no\n"))
		_, part, n, e := reader.Next(reader.ForReply("GET"), b, len(b), 3, 3)
		if status != 101 && (part.Kind != api.PartInterim || n != len(b)-3 || e != api.OK) || status == 101 && e != api.ErrSyntax {
			t.Errorf("%q is read as %#v, %d, %d", b, part, n, e)
		}
	}
	for _, status := range []int{math.MinInt, -200, -1, 0, 1, 99, 600, 1000, 2000, math.MaxInt} {
		if b := writer.Reply(writer.Text(status, "no\n")); len(b) != 0 {
			t.Errorf("a reply with the status %d is written %q", status, b)
		}
	}
}

func TestArbitraryTextsAreRead(t *testing.T) {
	r := rand.New(rand.NewSource(4))
	for range 5000 {
		status := 200 + r.Intn(400)
		if status == 204 || status == 304 {
			continue
		}
		more := of("A", strings.Trim(random(r, valueBytes(), 9), " \t"), "b"+random(r, tokenBytes, 9), random(r, letters, 9))
		checkRead(t, status, pick(r, random(r, allBytes(), 40), random(r, "\r\n", 6), random(r, allBytes(), 3000)), more[:r.Intn(3)]...)
	}
}

// The general rules.

// R2: what is returned can be changed, and neither an argument nor another result is.
func TestMessagesShareNothing(t *testing.T) {
	whole := of("Host", "a", "X", "b", "a b", "\n")
	array := []byte("abcdef")
	r := api.Request{Method: "GET", Target: "/", Minor: 1, Fields: whole[:2], Body: array[:3]}
	a := api.Reply{Status: 200, Reason: "OK", Minor: 1, Fields: whole[:2], Body: array[:3]}
	q, b := writer.Request(r), writer.Reply(a)
	overwrite(writer.Request(r))
	overwrite(writer.Reply(a))
	if string(array) != "abcdef" || !slices.Equal(whole, of("Host", "a", "X", "b", "a b", "\n")) {
		t.Errorf("the arguments are changed to %q and %q", array, whole)
	}
	overwrite(array)
	overwriteFields(whole)
	if string(q) != get+host+"X: b\r\n\r\nabc" || string(b) != ok+host+"X: b\r\n\r\nabc" {
		t.Errorf("the messages are changed to %q and %q", q, b)
	}
	for _, body := range [][]byte{nil, {}, array[:0]} {
		r.Fields, r.Body = of("Host", "a"), body
		overwrite(writer.Request(r))
		if again := writer.Request(r); string(again) != get+host+end {
			t.Errorf("Request = %q", again)
		}
	}
}

func TestMakeSharesNothing(t *testing.T) {
	whole := of("A", "b", "C", "d", "E", "f")
	for n := range 3 {
		a := writer.Make(404, "g", "body", whole[:n]...)
		b := writer.Text(404, "body", whole[:n]...)
		others := []api.Reply{writer.Make(404, "g", "body", whole[:n]...), writer.Text(404, "body", whole[:n]...)}
		for _, x := range others {
			overwriteFields(x.Fields)
			overwrite(x.Body)
		}
		if !slices.Equal(whole, of("A", "b", "C", "d", "E", "f")) {
			t.Errorf("the fields are changed to %q", whole)
		}
		more := slices.Clone(whole[:n])
		overwriteFields(whole)
		if !sameReply(a, wantMake(404, "g", "body", more)) || !sameReply(b, wantMake(404, "text/plain", "body", more)) {
			t.Errorf("the replies are changed to %#v and %#v", a, b)
		}
		whole = of("A", "b", "C", "d", "E", "f")
	}
}

// Appending to one reply's fields or body does not show in another.
func TestMakeHasMemoryOfItsOwn(t *testing.T) {
	a, b := writer.Text(404, "no\n"), writer.Text(404, "no\n")
	_ = append(a.Fields, api.Field{Name: "A"})
	_ = append(a.Body, 'x')
	b.Fields[0].Value, b.Body[0] = "changed", 'x'
	if c := writer.Text(404, "no\n"); !sameReply(a, wantMake(404, "text/plain", "no\n", nil)) || !sameReply(c, a) {
		t.Errorf("%#v, %#v", a, c)
	}
}

// Great messages are treated as small ones are.
func TestGreat(t *testing.T) {
	long, lines := strings.Repeat("x", 3000000), strings.Repeat("a: b\r\n", 60000)
	checkRequest(t, api.Request{Method: long[:100000], Target: "/" + long[:100000], Minor: 1, Fields: of("Host", "a", "A", long[:100000]), Body: []byte(long)})
	checkReply(t, api.Reply{Status: 200, Reason: long[:100000], Fields: of(long[:100000], long[:100000]), Body: []byte(long)})
	checkMake(t, 200, long[:100000], long, of("A", long[:100000])...)
	checkMake(t, 200, "a", long+"\r\n")
	checkRead(t, 502, long)
	a := writer.Text(200, long, repeated(60000)...)
	if b := writer.Reply(a); string(b) != ok+"Content-Type: text/plain\r\nContent-Length: 3000000\r\n"+lines+end+long {
		t.Errorf("a reply of many fields has %d bytes", len(b))
	}
	a.Fields[60001].Name = ""
	if b := writer.Reply(a); len(b) != 0 {
		t.Errorf("a reply of many fields with a bad one has %d bytes", len(b))
	}
	r := api.Request{Method: "GET", Target: "/", Minor: 1, Fields: a.Fields[:60001], Body: a.Body}
	if b := writer.Request(r); string(b) != get+"Content-Type: text/plain\r\nContent-Length: 3000000\r\n"+lines[:len(lines)-6]+end+long {
		t.Errorf("a request of many fields has %d bytes", len(b))
	}
	r.Fields = a.Fields
	if b := writer.Request(r); len(b) != 0 {
		t.Errorf("a request of many fields with a bad one has %d bytes", len(b))
	}
}
