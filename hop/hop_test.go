package hop_test

import (
	"fmt"
	"math"
	"math/rand"
	"regexp"
	"slices"
	"strings"
	"testing"

	"canary/api"
	"canary/framing"
	"canary/hop"
	"canary/reader"
	"canary/writer"
)

// Each promise is checked on named cases, on every name and value that differs from
// one that matters in a single byte, on all lists of a few fields that matter, on all
// statuses and the numbers around them, and on arbitrary bytes, numbers and messages,
// those that can be forwarded and others, against an oracle that calls no other layer.
// Only the framing (P13.4) is decided by layer 8, and what is written is read by layer 11.

const (
	conn  = "Connection"
	cl    = "Content-Length"
	te    = "Transfer-Encoding"
	xff   = "X-Forwarded-For"
	via   = "Via"
	added = "1.1 canary"
)

// ofOneHop are the names of the fields of one hop, as the document lists them.
var ofOneHop = strings.Split("Connection, Keep-Alive, Proxy-Connection, TE, Trailer, Transfer-Encoding, Upgrade, Expect, Content-Length", ", ")

// kept are names of fields that are not of one hop, some of them like those that are.
var kept = []string{
	"Host", "Cookie", "Via", "X-Forwarded-For", "Set-Cookie", "Content-Type", "Content-Encoding", "Accept", "Keep", "Alive", "Keep_Alive", "KeepAlive",
	"Connections", "Connectio", "Proxy-Authorization", "Proxy-Authenticate", "Proxy", "TE2", "T", "E", "Trailers", "Transfer", "Encoding", "Upgrade2",
	"Upgrade-Insecure-Requests", "Expect-CT", "Expects", "Length", "Content-Length2", "close", "", " ", "Content-Length ", " TE", "TE:", "\xff",
}

// methods and statuses have those on which the length of a response depends, and others that are like them.
var (
	methods  = []string{"HEAD", "GET", "head", "Head", "HEAD ", " HEAD", "HEA", "HEADS", "HEAD\x00", "", "POST", "CONNECT", "OPTIONS", "\xff"}
	statuses = []int{
		200, 204, 304, 100, 101, 199, 201, 203, 205, 206, 300, 303, 305, 400, 404, 500, 599, 0, 1, 99, 600, 2040, 3040,
		-204, -304, 1<<32 + 204, 1<<32 + 304, math.MaxInt, math.MinInt,
	}
	sizes = []int{0, 1, 5, 9, 10, 100, 1000000000, 1000000001, math.MaxInt, -1, -5, math.MinInt}
)

// of makes fields of names and values.
func of(l ...string) []api.Field {
	var fields []api.Field
	for i := 0; i < len(l); i += 2 {
		fields = append(fields, api.Field{Name: l[i], Value: l[i+1]})
	}
	return fields
}

func allBytes() string {
	b := make([]byte, 256)
	for i := range b {
		b[i] = byte(i)
	}
	return string(b)
}

// edits returns the strings that differ from s in one byte that is missing,
// replaced or added, for every byte there is, and s.
func edits(s string) []string {
	all := allBytes()
	l := []string{s}
	for at := range len(s) + 1 {
		for i := range all {
			l = append(l, s[:at]+all[i:i+1]+s[at:])
			if at < len(s) {
				l = append(l, s[:at]+all[i:i+1]+s[at+1:])
			}
		}
		if at < len(s) {
			l = append(l, s[:at]+s[at+1:])
		}
	}
	return l
}

// lists returns all lists of at most n of the fields, also with one field several times.
func lists(fields []api.Field, n int) [][]api.Field {
	l := [][]api.Field{nil}
	for first := 0; n > 0; n-- {
		last := len(l)
		for _, x := range l[first:last] {
			for _, f := range fields {
				l = append(l, append(slices.Clone(x), f))
			}
		}
		first = last
	}
	return l
}

func random(r *rand.Rand, alphabet string, most int) string {
	b := make([]byte, r.Intn(most+1))
	for i := range b {
		b[i] = alphabet[r.Intn(len(alphabet))]
	}
	return string(b)
}

func pick[E any](r *rand.Rand, l ...E) E { return l[r.Intn(len(l))] }

// recased returns s with some of its letters in the other case.
func recased(r *rand.Rand, s string) string {
	b := []byte(s)
	for i, c := range b {
		if (c|32) >= 'a' && (c|32) <= 'z' && r.Intn(3) == 0 {
			b[i] ^= 32
		}
	}
	return string(b)
}

// randomList returns a list of elements that may name fields.
func randomList(r *rand.Rand) string {
	list := ""
	for range r.Intn(4) {
		name := pick(r, pick(r, ofOneHop...), pick(r, kept...), "X-A", "X-B", "X-C", "1.0 a", random(r, allBytes(), 4))
		list += random(r, " \t,", 2) + recased(r, name) + random(r, " \t", 2) + pick(r, ",", ", ", ";", "")
	}
	return list
}

func randomField(r *rand.Rand) api.Field {
	name := pick(r, pick(r, ofOneHop...), pick(r, kept...), "X-A", "X-B", "X-C", via, xff, conn, cl, random(r, allBytes(), 5))
	if r.Intn(20) == 0 {
		name += random(r, allBytes(), 1)
	}
	return api.Field{Name: recased(r, name), Value: pick(r, randomList(r), random(r, "0123456789", 25), "chunked", random(r, allBytes(), 9))}
}

func randomFields(r *rand.Rand) []api.Field {
	l := make([]api.Field, r.Intn(9))
	for i := range l {
		l[i] = randomField(r)
	}
	return l
}

// overwrite changes all bytes of b, and of the memory behind it that belongs to it.
func overwrite(b []byte) {
	b = b[:cap(b)]
	for i := range b {
		b[i] ^= 0x55
	}
}

// overwriteFields does the same with fields.
func overwriteFields(l []api.Field) {
	l = l[:cap(l)]
	for i := range l {
		l[i] = api.Field{Name: "overwritten", Value: "overwritten"}
	}
}

// P13.1

func TestStrip(t *testing.T) {
	for _, x := range []struct{ l, want []api.Field }{
		{nil, nil}, {[]api.Field{}, nil}, {of("Host", "a"), of("Host", "a")},
		{of(conn, "close, X-A", "X-A", "1", "X-B", "2"), of("X-B", "2")},
		{of("X-B", "2", "X-A", "1", conn, "close, X-A"), of("X-B", "2")},
		{of("A", "1", "B", "2", "A", "3", "C", "", "a", "1"), of("A", "1", "B", "2", "A", "3", "C", "", "a", "1")},
		{of("A", "1", te, "chunked", "B", "2", cl, "5", "A", "3"), of("A", "1", "B", "2", "A", "3")},
		{of(conn, "", "Keep-Alive", "", "Proxy-Connection", "", "TE", "", "Trailer", "", te, "", "Upgrade", "", "Expect", "", cl, ""), nil},
		{of("CONNECTION", "1", "KEEP-ALIVE", "2", "PROXY-CONNECTION", "3", "te", "4", "TRAILER", "5", "transfer-encoding", "6", "upgrade", "7", "EXPECT", "8", "content-length", "9"), nil},
		{of(cl, "5", cl, "5", "content-length", "6", te, "chunked", te, "gzip"), nil},

		{of("x-a", "1", conn, "X-A", "x-A", "2"), nil},
		{of("X-A", "1", "X-C", "2", "X-B", "3", conn, "x-a", "connection", "x-c"), of("X-B", "3")},
		{of(conn, ",, \tX-A\t , , X-C,", "X-A", "1", "X-C", "2", "X-B", "3"), of("X-B", "3")},
		{of(conn, "X-A,X-A,x-a", "X-A", "1", "X-AA", "2", "X-", "3"), of("X-AA", "2", "X-", "3")},
		{of(conn, "X-D", "X-A", "1"), of("X-A", "1")},
		{of(conn, "X-A;X-B", "X-A", "1", "X-B", "2"), of("X-A", "1", "X-B", "2")},
		{of(conn, "\"X-A\"", "X-A", "1"), of("X-A", "1")},
		{of(conn, "X-A X-B", "X-A", "1", "X-B", "2", "X-A X-B", "3"), of("X-A", "1", "X-B", "2")},
		{of(conn, "X-\xc4", "X-\xc4", "1", "X-\xe4", "2"), of("X-\xe4", "2")},
		{of(conn, ", ,", "", "1", " ", "2", ",", "3"), of("", "1", " ", "2", ",", "3")},

		{of(conn, "host, COOKIE, via", "Host", "a", "Cookie", "b", "Via", "c"), of("Host", "a", "Cookie", "b")},
		{of(conn, "Host", "HOST", "a", "cookie", "b", "host", "c"), of("HOST", "a", "cookie", "b", "host", "c")},
		{of(conn, "Set-Cookie, Hosts, Cookies", "Set-Cookie", "a", "Hosts", "b", "Cookies", "c", "Cookie", "d"), of("Cookie", "d")},
		{of(conn, "Authorization, Content-Type, X-Forwarded-For", "Authorization", "a", "Content-Type", "b", xff, "c"), nil},
		{of(conn, "Connection, Content-Length", cl, "5", "A", "b"), of("A", "b")},

		// Only Connection names fields.
		{of("Proxy-Connection", "X-A", "X-A", "1"), of("X-A", "1")}, {of("Keep-Alive", "X-A", "Upgrade", "X-A", "TE", "X-A", "Trailer", "X-A", "X-A", "1"), of("X-A", "1")},
		{of("Connections", "X-A", "X-A", "1"), of("Connections", "X-A", "X-A", "1")}, {of("Connection ", "X-A", "X-A", "1"), of("Connection ", "X-A", "X-A", "1")},
	} {
		if got := hop.Strip(x.l); !slices.Equal(got, x.want) {
			t.Errorf("Strip(%q) = %q, want %q", x.l, got, x.want)
		}
		check(t, x.l)
	}
}

func TestVia(t *testing.T) {
	for _, x := range []struct{ l, want []api.Field }{
		{nil, of(via, added)}, {[]api.Field{}, of(via, added)}, {of("X", "1"), of("X", "1", via, added)},
		{of(via, "1.0 a"), of(via, "1.0 a, 1.1 canary")}, {of("vIA", "1.0 a", "X", "1"), of("X", "1", via, "1.0 a, 1.1 canary")},
		{of("via", "1.0 a, 1.1 b", "X", "1", "Via", "c"), of("X", "1", via, "1.0 a, 1.1 b, c, 1.1 canary")},
		{of(via, ""), of(via, added)}, {of(via, " ,\t,", "VIA", ","), of(via, added)}, {of(via, ",a ,,\tb\t"), of(via, "a, b, 1.1 canary")},
		{of(via, "1.1 canary"), of(via, "1.1 canary, 1.1 canary")}, {of(via, "1.1 b (x  y)"), of(via, "1.1 b (x  y), 1.1 canary")},
		{of(via, "\xff,\n"), of(via, "\xff, \n, 1.1 canary")},
		{of("Vi", "a", "Vias", "b", "Via ", "c", "", "d"), of("Vi", "a", "Vias", "b", "Via ", "c", "", "d", via, added)},

		// Via removes no fields of one hop.
		{of(conn, "via, X-A", "X-A", "1", via, "a", cl, "5", te, "b"), of(conn, "via, X-A", "X-A", "1", cl, "5", te, "b", via, "a, 1.1 canary")},
	} {
		if got := hop.Via(x.l); !slices.Equal(got, x.want) {
			t.Errorf("Via(%q) = %q, want %q", x.l, got, x.want)
		}
		check(t, x.l)
	}
}

// All names that differ from one that matters in a byte.
func TestNames(t *testing.T) {
	for _, name := range slices.Concat(ofOneHop, []string{via, xff, "Host", "Cookie"}) {
		for _, x := range edits(name) {
			l := of("A", "1", x, "B, 2", "B", "3")
			checkFields(t, l)
			checkForward(t, api.Request{Fields: l}, "7")
			checkBackward(t, "HEAD", api.Reply{Fields: of(x, "5")}, 3)
		}
	}
	for _, name := range slices.Concat(ofOneHop, kept) {
		check(t, of(name, "a"))
		check(t, of("A", "b", strings.ToUpper(name), "a", strings.ToLower(name), "5"))
	}
}

// All elements of Connection that differ from one that matters in a byte, and fields of their names.
func TestNamed(t *testing.T) {
	for _, s := range []string{"X-A", " x-a\t,", "X-A,X-B", "Host", "cookie,", "Via"} {
		for _, x := range edits(s) {
			checkFields(t, of(conn, x, "X-A", "1", "Host", "2", "X-B", "3", "Cookie", "4", "Via", "5", cl, "6", xff, "7", "", "8"))
			checkFields(t, of(s, "1", x, "2", "connection", x))
			checkFields(t, of("CONNECTION", s, x, "1", conn, "z"))
			checkForward(t, api.Request{Fields: of(conn, x, "Host", "a", "Cookie", "b", xff, "1", via, "2")}, "7")
		}
	}
	for _, name := range slices.Concat(ofOneHop, kept) {
		for _, other := range slices.Concat(ofOneHop, kept) {
			checkFields(t, of(conn, "a, "+name, other, "1", name, "2"))
		}
	}
}

// All lists of Via and X-Forwarded-For that differ from a usual one in a byte.
func TestElements(t *testing.T) {
	for _, s := range []string{"", "1", "1, 2", " ,a b\t,", "1.0 a,1.1 b"} {
		for _, x := range edits(s) {
			for _, name := range []string{via, xff} {
				checkFields(t, of(name, x, "A", "b"))
				checkForward(t, api.Request{Fields: of(name, x, "A", "b", strings.ToLower(name), "c,d")}, "7")
				checkBackward(t, "GET", api.Reply{Status: 200, Fields: of(name, x, "A", "b")}, 3)
			}
		}
	}
}

// All lists of a few fields that matter, in every order.
func TestLists(t *testing.T) {
	fields := of(
		conn, "X-A, via", "connection", "Host, x-forwarded-for,", conn, "", "X-A", "1", "x-a", "", "Host", "a", "Cookie", "b",
		via, "1.0 a, b", "via", "", xff, "1", "x-forwarded-for", "2, 3", cl, "5", "content-length", "x", te, "chunked", "Expect", "100-continue",
	)
	for _, l := range lists(fields, 3) {
		check(t, l)
	}
	for _, l := range lists(fields[:7], 4) {
		checkFields(t, l)
	}
}

func TestArbitraryFields(t *testing.T) {
	r := rand.New(rand.NewSource(1))
	stripped := 0
	for range 20000 {
		l := randomFields(r)
		check(t, l)
		if n := len(wantStrip(l)); n > 0 && n < len(l) {
			stripped++
		}
	}
	if stripped < 5000 {
		t.Errorf("only %d lists lose some of their fields", stripped)
	}
}

// P13.2

func TestForward(t *testing.T) {
	for _, x := range []struct {
		r    api.Request
		peer string
		want api.Request
	}{
		{
			api.Request{Method: "GET", Target: "/", Minor: 1, Fields: of("Host", "a", xff, "1")}, "7",
			api.Request{Method: "GET", Target: "/", Minor: 1, Fields: of("Host", "a", xff, "1, 7", via, added)},
		}, {
			api.Request{Method: "GET", Target: "/", Minor: 1, Fields: of("Host", "a")}, "5",
			api.Request{Method: "GET", Target: "/", Minor: 1, Fields: of("Host", "a", xff, "5", via, added)},
		}, {
			api.Request{Method: "PUT", Target: "/x?y", Fields: of("Host", "h", xff, "1", te, "chunked", "A", "b", "x-forwarded-for", "2, 3"), Framed: true, Body: []byte("abc")}, "7",
			api.Request{Method: "PUT", Target: "/x?y", Minor: 1, Fields: of("Host", "h", "A", "b", xff, "1, 2, 3, 7", via, added, cl, "3"), Framed: true, Body: []byte("abc")},
		}, {
			api.Request{Method: "POST", Target: "/", Minor: 1, Fields: of(cl, "0", "Expect", "100-continue"), Framed: true}, "1",
			api.Request{Method: "POST", Target: "/", Minor: 1, Fields: of(xff, "1", via, added, cl, "0"), Framed: true},
		}, {
			api.Request{Method: "POST", Target: "/", Minor: 1, Fields: of(cl, "9"), Framed: true, Body: []byte("0123456789")}, "1",
			api.Request{Method: "POST", Target: "/", Minor: 1, Fields: of(xff, "1", via, added, cl, "10"), Framed: true, Body: []byte("0123456789")},
		}, {
			// Framed alone says whether there is a length.
			api.Request{Method: "POST", Target: "/", Minor: 1, Fields: of(cl, "3"), Body: []byte("abc")}, "1",
			api.Request{Method: "POST", Target: "/", Minor: 1, Fields: of(xff, "1", via, added), Body: []byte("abc")},
		}, {
			api.Request{Fields: of(conn, "X-Forwarded-For, Via, Host", xff, "1", via, "x", "Host", "a")}, "7",
			api.Request{Minor: 1, Fields: of("Host", "a", xff, "7", via, added)},
		}, {
			api.Request{Fields: of(via, "1.0 x", "A", "b", xff, ",1,", "Via", "y")}, "7",
			api.Request{Minor: 1, Fields: of("A", "b", xff, "1, 7", via, "1.0 x, y, 1.1 canary")},
		}, {
			// Nothing is checked, and the peer is not divided.
			api.Request{Method: "G T", Target: "*", Minor: -9, Fields: of("", "\n", "a b", "")}, "1, 2,",
			api.Request{Method: "G T", Target: "*", Minor: 1, Fields: of("", "\n", "a b", "", xff, "1, 2,", via, added)},
		}, {
			api.Request{Fields: of(xff, "1")}, "",
			api.Request{Minor: 1, Fields: of(xff, "1, ", via, added)},
		}, {
			api.Request{}, "",
			api.Request{Minor: 1, Fields: of(xff, "", via, added)},
		}, {
			api.Request{Fields: of(xff, "7"), Framed: true, Body: []byte{}}, "7",
			api.Request{Minor: 1, Fields: of(xff, "7, 7", via, added, cl, "0"), Framed: true},
		},
	} {
		if got := hop.Forward(x.r, x.peer); !sameRequest(got, x.want) {
			t.Errorf("Forward(%#v, %q) = %#v, want %#v", x.r, x.peer, got, x.want)
		}
		checkForward(t, x.r, x.peer)
	}
}

func TestForwardPeers(t *testing.T) {
	for _, peer := range slices.Concat(edits("7"), edits("1, a")) {
		checkForward(t, api.Request{Fields: of("Host", "a")}, peer)
		checkForward(t, api.Request{Fields: of(xff, "1", xff, "2")}, peer)
	}
}

func TestForwardOtherParts(t *testing.T) {
	l := of("Host", "a", cl, "5")
	for _, x := range slices.Concat(methods, edits("G"), edits("/")) {
		checkForward(t, api.Request{Method: x, Target: "/", Fields: l}, "7")
		checkForward(t, api.Request{Method: "GET", Target: x, Fields: l}, "7")
		checkForward(t, api.Request{Method: "HEAD", Target: "/", Fields: l, Framed: true, Body: []byte(x)}, "7")
		checkForward(t, api.Request{Method: "GET", Target: "/", Fields: l, Body: []byte(x)}, "7")
	}
	for _, minor := range []int{0, 1, 2, -1, 10, 256, math.MaxInt, math.MinInt} {
		checkForward(t, api.Request{Method: "GET", Target: "/", Minor: minor, Fields: l}, "7")
	}
	for n := range 1100 {
		checkForward(t, api.Request{Method: "PUT", Target: "/", Fields: l, Framed: true, Body: []byte(strings.Repeat("x", n))}, "7")
	}
}

func randomRequest(r *rand.Rand) api.Request {
	return api.Request{
		Method: recased(r, pick(r, methods...)), Target: random(r, allBytes(), 5), Minor: pick(r, 0, 1, int(r.Uint64())),
		Fields: randomFields(r), Framed: r.Intn(2) == 0, Body: []byte(random(r, allBytes(), pick(r, 0, 3, 300))),
	}
}

func TestArbitraryRequests(t *testing.T) {
	r := rand.New(rand.NewSource(2))
	for range 20000 {
		checkForward(t, randomRequest(r), pick(r, "7", fmt.Sprint(r.Intn(100000)), random(r, allBytes(), 4)))
	}
}

// P13.3

func TestBackward(t *testing.T) {
	more := of("M", "n", "Set-Cookie", "c")
	for _, x := range []struct {
		method string
		a      api.Reply
		size   int
		more   []api.Field
		want   api.Reply
	}{
		{
			"GET", api.Reply{Status: 200, Reason: "R", Fields: of(cl, "2", "A", "b", via, "x", "Keep-Alive", "1"), Body: []byte("ab")}, 2, more,
			api.Reply{Status: 200, Reason: "R", Minor: 1, Fields: of("A", "b", via, "x, 1.1 canary", "M", "n", "Set-Cookie", "c", cl, "2"), Body: []byte("ab")},
		}, {
			"GET", api.Reply{Status: 200}, 0, nil,
			api.Reply{Status: 200, Minor: 1, Fields: of(via, added, cl, "0")},
		}, {
			// The size counts, and not the body.
			"POST", api.Reply{Status: 404, Minor: 1, Fields: of(te, "chunked", conn, "A", "A", "b"), Body: []byte("abc")}, 1000000001, nil,
			api.Reply{Status: 404, Minor: 1, Fields: of(via, added, cl, "1000000001"), Body: []byte("abc")},
		}, {
			"GET", api.Reply{Status: 204, Reason: "None", Fields: of(cl, "7"), Body: []byte("abc")}, 3, more[:1],
			api.Reply{Status: 204, Reason: "None", Minor: 1, Fields: of(via, added, "M", "n"), Body: []byte("abc")},
		}, {
			"HEAD", api.Reply{Status: 200, Fields: of("content-length", "007", "A", "b")}, 3, more[:1],
			api.Reply{Status: 200, Minor: 1, Fields: of("A", "b", via, added, "M", "n", cl, "007")},
		}, {
			// Connection does not hide the length of the reply.
			"HEAD", api.Reply{Status: 200, Fields: of(conn, "Content-Length", cl, "7")}, 3, nil,
			api.Reply{Status: 200, Minor: 1, Fields: of(via, added, cl, "7")},
		}, {
			// A transfer coding does not, either.
			"GET", api.Reply{Status: 304, Fields: of(te, "chunked", cl, "7")}, 0, nil,
			api.Reply{Status: 304, Minor: 1, Fields: of(via, added, cl, "7")},
		}, {
			// More fields are not rewritten.
			"HEAD", api.Reply{Status: 200, Minor: -3, Reason: "\n"}, 3, of(conn, "close, M", "M", "n", via, "a", cl, "9", "", "\n"),
			api.Reply{Status: 200, Minor: 1, Reason: "\n", Fields: of(via, added, conn, "close, M", "M", "n", via, "a", cl, "9", "", "\n")},
		}, {
			"GET", api.Reply{Status: 200}, 3, of(cl, "9"),
			api.Reply{Status: 200, Minor: 1, Fields: of(via, added, cl, "9", cl, "3")},
		}, {
			"", api.Reply{}, math.MaxInt, nil,
			api.Reply{Minor: 1, Fields: of(via, added, cl, "9223372036854775807")},
		}, {
			"", api.Reply{}, -1, nil,
			api.Reply{Minor: 1, Fields: of(via, added, cl, "")},
		},
	} {
		if got := hop.Backward(x.method, x.a, x.size, x.more...); !sameReply(got, x.want) {
			t.Errorf("Backward(%q, %#v, %d, %q) = %#v, want %#v", x.method, x.a, x.size, x.more, got, x.want)
		}
		checkBackward(t, x.method, x.a, x.size, x.more...)
	}
}

// lengthOf returns the values of Content-Length of the response to this reply, joined by blanks, or none.
func lengthOf(method string, status, size int, l []api.Field) string {
	values := wantValues(hop.Backward(method, api.Reply{Status: status, Fields: l}, size).Fields, cl)
	if len(values) == 0 {
		return "none"
	}
	return strings.Join(values, " ")
}

func TestLengths(t *testing.T) {
	long := strings.Repeat("9", 1000)
	for _, x := range []struct {
		l    []api.Field
		want string
	}{
		{nil, "none"}, {of("A", "5"), "none"}, {of(cl, "0"), "0"}, {of(cl, "5"), "5"}, {of("CONTENT-LENGTH", "0099"), "0099"}, {of(cl, long), long},
		{of(cl, "1000000000"), "1000000000"}, {of(cl, "1000000001"), "1000000001"}, {of(cl, "18446744073709551616"), "18446744073709551616"},
		{of(cl, ""), "none"}, {of(cl, " "), "none"}, {of(cl, "x"), "none"}, {of(cl, "5x"), "none"}, {of(cl, " 5"), "none"}, {of(cl, "5 "), "none"}, {of(cl, "-5"), "none"}, {of(cl, "+5"), "none"},
		{of(cl, "5,5"), "none"}, {of(cl, "5, 5"), "none"}, {of(cl, "0x5"), "none"}, {of(cl, "a"), "none"}, {of(cl, "\xb5"), "none"}, {of(cl, long+"x"), "none"}, {of(cl, "\u0665"), "none"},
		{of(cl, "5", cl, "5"), "none"}, {of(cl, "5", "content-length", "5"), "none"}, {of(cl, "5", cl, ""), "none"}, {of(cl, "x", cl, "5"), "none"}, {of(cl, "5", "A", "b", cl, "5", cl, "5"), "none"},
		{of("Content-Length ", "5"), "none"}, {of("Content-Length ", "5", cl, "6"), "6"}, {of(te, "chunked", cl, "6", conn, "close"), "6"},
	} {
		for _, method := range methods {
			for _, status := range statuses {
				want := "3"
				switch {
				case status == 204:
					want = "none"
				case status == 304 || method == "HEAD":
					want = x.want
				}
				if got := lengthOf(method, status, 3, x.l); got != want {
					t.Errorf("the length of a reply %d to %q with %q is %q, want %q", status, method, x.l, got, want)
				}
			}
		}
	}
}

func TestMethodsAndStatuses(t *testing.T) {
	for _, l := range [][]api.Field{nil, of(cl, "7"), of(cl, "x"), of("content-length", "7", cl, "7")} {
		for status := -700; status <= 2000; status++ {
			checkBackward(t, "GET", api.Reply{Status: status, Fields: l}, 3)
			checkBackward(t, "HEAD", api.Reply{Status: status, Fields: l}, 3)
		}
		for _, method := range slices.Concat(methods, edits("HEAD")) {
			for _, status := range statuses {
				checkBackward(t, method, api.Reply{Status: status, Fields: l}, 3)
			}
		}
	}
}

func TestDeclaredLengths(t *testing.T) {
	for _, s := range []string{"", "5", "0099", "1000000001"} {
		for _, x := range edits(s) {
			checkBackward(t, "HEAD", api.Reply{Status: 200, Fields: of(cl, x)}, 3)
			checkBackward(t, "GET", api.Reply{Status: 304, Fields: of(cl, x)}, 3)
			checkBackward(t, "GET", api.Reply{Status: 200, Fields: of(cl, x)}, 3)
			checkBackward(t, "HEAD", api.Reply{Status: 200, Fields: of("A", "b", cl, x, cl, s)}, 3)
		}
	}
}

func TestSizes(t *testing.T) {
	for _, size := range sizes {
		for _, method := range []string{"GET", "HEAD"} {
			for _, status := range []int{200, 204, 304} {
				checkBackward(t, method, api.Reply{Status: status, Body: []byte("ab")}, size)
				checkBackward(t, method, api.Reply{Status: status, Fields: of(cl, "7"), Body: []byte("ab")}, size, of("A", "b")...)
			}
		}
	}
	for size := -10; size < 2000; size++ {
		checkBackward(t, "GET", api.Reply{Status: 200}, size)
	}
}

func TestBackwardOtherParts(t *testing.T) {
	for _, x := range slices.Concat(edits("OK"), kept) {
		checkBackward(t, "GET", api.Reply{Status: 200, Reason: x, Minor: len(x), Fields: of("A", x), Body: []byte(x)}, 3, of(x, "1", "B", x)...)
	}
	for _, name := range slices.Concat(ofOneHop, kept) {
		for _, method := range []string{"GET", "HEAD"} {
			for _, status := range []int{200, 204, 304} {
				checkBackward(t, method, api.Reply{Status: status, Fields: of(conn, "A", "A", "1")}, 3, of(name, "5", "A", "2", name, "A")...)
			}
		}
	}
}

func TestArbitraryReplies(t *testing.T) {
	r := rand.New(rand.NewSource(3))
	for range 20000 {
		checkBackward(t, recased(r, pick(r, methods...)), api.Reply{
			Status: pick(r, append(statuses, r.Intn(1000), int(r.Uint64()))...), Reason: random(r, allBytes(), 5), Minor: pick(r, 0, 1, int(r.Uint64())),
			Fields: randomFields(r), Body: []byte(random(r, allBytes(), 9)),
		}, pick(r, append(sizes, r.Intn(100000), int(r.Uint64()))...), randomFields(r)...)
	}
}

// P13.4

// checkForwarded looks whether what is forwarded has one framing, and still has the fields Host and Cookie.
func checkForwarded(t *testing.T, r api.Request, peer string) {
	t.Helper()
	f := hop.Forward(r, peer)
	want := api.Frame{Kind: api.FrameNone}
	if r.Framed {
		want = api.Frame{Kind: api.FrameLength, Length: len(r.Body)}
	}
	if got, e := framing.OfRequest(f); got != want || e != api.OK {
		t.Fatalf("the frame of what is forwarded for %#v is %v, %d, want %v", r, got, e, want)
	}
	lengths := 0
	if r.Framed {
		lengths = 1
	}
	for name, n := range map[string]int{conn: 0, te: 0, cl: lengths, via: 1, xff: 1} {
		if len(wantValues(f.Fields, name)) != n {
			t.Fatalf("%q has not %d of %s", f.Fields, n, name)
		}
	}
	for _, name := range []string{"Host", "Cookie"} {
		if got, want := wantValues(f.Fields, name), wantValues(r.Fields, name); !slices.Equal(got, want) {
			t.Fatalf("%q has %s: %q, want %q", f.Fields, name, got, want)
		}
	}
}

// Whatever a client says about the end of its body, wherever it stands, it does not reach the server.
func TestSmuggling(t *testing.T) {
	framings := of(cl, "5", "content-length", "0", "CONTENT-LENGTH", "x", cl, "", te, "chunked", "transfer-encoding", "gzip", te, "", "Trailer", "a", "TE", "trailers", "Upgrade", "h2c", "Expect", "100-continue")
	options := of(conn, "Host, Cookie", conn, "Content-Length, Transfer-Encoding", "connection", "close, host,cookie", conn, "Via, X-Forwarded-For", "Proxy-Connection", "Host, Cookie")
	for _, l := range lists(slices.Concat(framings, options), 2) {
		for _, names := range [][]api.Field{of("Host", "a", "Cookie", "b"), of("host", "a", "COOKIE", "b", "Cookie", "c")} {
			for at := range len(names) + 1 {
				for _, body := range []string{"", "abc", "0\r\n\r\n", "GET / HTTP/1.1\r\nHost: a\r\n\r\n"} {
					r := api.Request{Method: "POST", Target: "/", Minor: 1, Fields: slices.Insert(slices.Clone(names), at, l...), Body: []byte(body)}
					checkForward(t, r, "7")
					r.Framed = true
					checkForward(t, r, "7")
				}
			}
		}
	}
}

func TestStripTwice(t *testing.T) {
	r := rand.New(rand.NewSource(4))
	for range 20000 {
		l := randomFields(r)
		once := hop.Strip(l)
		if twice := hop.Strip(once); !slices.Equal(once, twice) {
			t.Fatalf("Strip(%q) = %q, and then %q", l, once, twice)
		}
	}
}

// readRequest reads the request of which s consists.
func readRequest(t *testing.T, s string) api.Request {
	t.Helper()
	state, rest, body := reader.ForRequest(), []byte(s), []byte{}
	for state.Phase != api.ReadDone {
		next, part, n, e := reader.Next(state, rest, 100000, 100000, 100000)
		if e != api.OK || part.Kind == api.PartNone {
			t.Fatalf("%q is not read: %d, at %q", s, e, rest)
		}
		state, rest, body = next, rest[n:], append(body, part.Data...)
	}
	if len(rest) > 0 {
		t.Fatalf("%q ends before %q", s, rest)
	}
	r := state.Request
	r.Framed, r.Body = state.Frame.Kind != api.FrameNone, body
	return r
}

// These speak of the names and the values that can be written (see wide).
var (
	nameForm  = regexp.MustCompile("^[-A-Za-z0-9!#$%&'*+.^_`|~]+$")
	valueForm = regexp.MustCompile(`^([!-~\x{80}-\x{ff}]([\t -~\x{80}-\x{ff}]*[!-~\x{80}-\x{ff}])?)?$`)
)

// What is forwarded is read by the server as it was sent, and nothing is left behind it.
func TestForwardedIsRead(t *testing.T) {
	r := rand.New(rand.NewSource(5))
	for range 10000 {
		x := randomRequest(r)
		x.Method, x.Target = "POST", "/"+random(r, "ab?=", 5)
		if !x.Framed {
			x.Body = nil
		}
		x.Fields = slices.DeleteFunc(x.Fields, func(f api.Field) bool {
			return sameName(f.Name, "Host") || !nameForm.MatchString(wide(f.Name)) || !valueForm.MatchString(wide(f.Value))
		})
		x.Fields = slices.Insert(x.Fields, r.Intn(len(x.Fields)+1), api.Field{Name: recased(r, "Host"), Value: "a"})
		f := hop.Forward(x, fmt.Sprint(r.Intn(1000)))
		if got := readRequest(t, string(writer.Request(f))); !sameRequest(got, f) {
			t.Fatalf("%#v is read as %#v", f, got)
		}
	}
}

// The general rules.

// results are those of all functions for the same fields.
type results struct {
	strip, via []api.Field
	request    api.Request
	reply      api.Reply
}

func resultsOf(l []api.Field, body []byte, more []api.Field) results {
	return results{
		strip:   hop.Strip(l),
		via:     hop.Via(l),
		request: hop.Forward(api.Request{Fields: l, Framed: true, Body: body}, "7"),
		reply:   hop.Backward("GET", api.Reply{Status: 200, Fields: l, Body: body}, 3, more...),
	}
}

func wantResults(l []api.Field, body []byte, more []api.Field) results {
	return results{
		strip:   wantStrip(l),
		via:     wantVia(l),
		request: wantForward(api.Request{Fields: l, Framed: true, Body: body}, "7"),
		reply:   wantBackward("GET", api.Reply{Status: 200, Fields: l, Body: body}, 3, more),
	}
}

func (x results) same(y results) bool {
	return slices.Equal(x.strip, y.strip) && slices.Equal(x.via, y.via) && sameRequest(x.request, y.request) && sameReply(x.reply, y.reply)
}

func (x results) overwrite() {
	for _, l := range [][]api.Field{x.strip, x.via, x.request.Fields, x.reply.Fields} {
		overwriteFields(l)
	}
	overwrite(x.request.Body)
	overwrite(x.reply.Body)
}

// R2: what is returned can be changed, and neither an argument nor another result
// is; nor is the memory behind an argument, which belongs to its owner.
func TestResultsShareNothing(t *testing.T) {
	whole, extra, text := of("Host", "a", "A", "b", via, "c", cl, "3", xff, "e", "F", "g"), of("M", "1", "N", "2", "O", "3"), "abcdef"
	for n := range len(whole) + 1 {
		for k := range len(extra) + 1 {
			l, more, body := slices.Clone(whole), slices.Clone(extra), []byte(text)
			want := wantResults(whole[:n], []byte(text)[:3], extra[:k])
			resultsOf(l[:n], body[:3], more[:k]).overwrite()
			if !slices.Equal(l, whole) || !slices.Equal(more, extra) || string(body) != text {
				t.Errorf("the arguments are changed to %q, %q and %q", l, more, body)
			}
			got, other := resultsOf(l[:n], body[:3], more[:k]), resultsOf(l[:n], body[:3], more[:k])
			other.overwrite()
			overwriteFields(l)
			overwriteFields(more)
			overwrite(body)
			if !got.same(want) {
				t.Errorf("%#v, want %#v", got, want)
			}
		}
	}
}

// R5: no fields and no bytes are the same as nil and as none of a list.
func TestNone(t *testing.T) {
	fields, bodies := [][]api.Field{nil, {}, of("A", "b")[:0]}, [][]byte{nil, {}, []byte("abc")[:0]}
	want := wantResults(nil, nil, nil)
	for _, l := range fields {
		for _, body := range bodies {
			for _, more := range fields {
				if got := resultsOf(l, body, more); !got.same(want) {
					t.Errorf("%#v, want %#v", got, want)
				}
			}
		}
	}
}

// Many fields, many elements and long values are treated as few and short ones are.
func TestGreat(t *testing.T) {
	var names []string
	var fields, rest []api.Field
	for i := range 20000 {
		name := fmt.Sprint("X-", i)
		fields = append(fields, of(name, "a", "Y", "b", cl, "5")...)
		rest = append(rest, of("Y", "b")...)
		names = append(names, name)
	}
	l := slices.Concat(fields, of(conn, strings.Join(names, ","), "Host", "a"))
	if got := hop.Strip(l); !slices.Equal(got, append(rest, of("Host", "a")...)) {
		t.Errorf("%d of %d fields are left", len(got), len(l))
	}
	commas, elements := strings.Repeat(" ,", 50000), strings.Join(names, ", ")
	checkFields(t, of(conn, commas+"A"+commas, "A", "1", "B", "2"))
	for range 3 {
		l = append(l, of(via, elements+commas, xff, elements+commas)...)
	}
	body := []byte(strings.Repeat("x", 3000000))
	check(t, slices.Concat(l[len(l)-6:], of(cl, strings.Repeat("9", 100000))))
	checkForward(t, api.Request{Method: "PUT", Target: "/", Fields: l, Framed: true, Body: body}, elements)
	checkBackward(t, "GET", api.Reply{Status: 200, Fields: l, Body: body}, len(body), fields...)
}
