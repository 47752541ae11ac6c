package framing_test

import (
	"math"
	"math/big"
	"math/rand"
	"regexp"
	"slices"
	"strings"
	"testing"

	"canary/api"
	"canary/framing"
)

// Each promise is checked on named cases, on every text that differs from a good
// one in a single byte, on all lists of a few fields that matter, and on arbitrary
// fields, bytes and numbers, valid messages and others, against an oracle of
// regular expressions that calls no other layer.

const (
	te   = "Transfer-Encoding"
	cl   = "Content-Length"
	conn = "Connection"
)

// The values of the fields of a name are joined by commas before these are used.
var (
	nameForm = map[string]*regexp.Regexp{
		te:   regexp.MustCompile(`^(?i:transfer-encoding)$`),
		cl:   regexp.MustCompile(`^(?i:content-length)$`),
		conn: regexp.MustCompile(`^(?i:connection)$`),
	}
	chunkedForm = regexp.MustCompile(`^[ \t,]*(?i:chunked)[ \t,]*$`)
	lengthForm  = regexp.MustCompile(`^[0-9]+$`)
	closeForm   = regexp.MustCompile(`(^|,)[ \t]*(?i:close)[ \t]*(,|$)`)
	keepForm    = regexp.MustCompile(`(^|,)[ \t]*(?i:keep-alive)[ \t]*(,|$)`)
)

var (
	none    = api.Frame{Kind: api.FrameNone}
	chunked = api.Frame{Kind: api.FrameChunked}
	toClose = api.Frame{Kind: api.FrameClose}
)

// minors has the two versions, their neighbours, and numbers that end in the same bits.
var minors = []int{1, 0, 2, -1, 10, 256, 257, 1 << 32, 1<<32 + 1, math.MaxInt, math.MinInt, math.MinInt + 1}

// methods and statuses have those of replies without a body, and others that are like them.
var (
	methods  = []string{"HEAD", "GET", "head", "Head", "HEAD ", " HEAD", "HEA", "HEADS", "HEAD\x00", "", "POST", "CONNECT", "OPTIONS", "\xff"}
	statuses = []int{
		200, 204, 304, 100, 101, 150, 199, 99, 201, 203, 205, 206, 300, 303, 305, 400, 404, 500, 599, 0, 1, 10, 20, 30, 600, 1000, 2040, 3040,
		-100, -204, -304, 1<<32 + 204, 1<<32 + 150, math.MaxInt, math.MinInt,
	}
)

// of makes fields of names and values.
func of(l ...string) []api.Field {
	var fields []api.Field
	for i := 0; i < len(l); i += 2 {
		fields = append(fields, api.Field{Name: l[i], Value: l[i+1]})
	}
	return fields
}

func length(n int) api.Frame { return api.Frame{Kind: api.FrameLength, Length: n} }

// wide returns a string with a rune for each byte of s, so that the expressions speak of bytes.
func wide(s string) string {
	runes := make([]rune, len(s))
	for i := range len(s) {
		runes[i] = rune(s[i])
	}
	return string(runes)
}

// joined returns how many fields have this name, and their values.
func joined(l []api.Field, name string) (int, string) {
	var values []string
	for _, f := range l {
		if nameForm[name].MatchString(wide(f.Name)) {
			values = append(values, f.Value)
		}
	}
	return len(values), wide(strings.Join(values, ","))
}

func wantFrame(minor int, l []api.Field, otherwise api.Frame) (api.Frame, api.Errno) {
	codings, coding := joined(l, te)
	lengths, digits := joined(l, cl)
	switch {
	case codings > 0 && minor != 0 && lengths == 0 && chunkedForm.MatchString(coding):
		return chunked, api.OK
	case codings > 0 || lengths > 1 || lengths == 1 && !lengthForm.MatchString(digits):
		return api.Frame{}, api.ErrFraming
	case lengths == 0:
		return otherwise, api.OK
	}
	n, ok := new(big.Int).SetString(digits, 10)
	if !ok || n.Cmp(big.NewInt(1000000000)) > 0 {
		return api.Frame{}, api.ErrLimit
	}
	return length(int(n.Int64())), api.OK
}

func wantReply(method string, a api.Reply) (api.Frame, api.Errno) {
	if method == "HEAD" || a.Status == 204 || a.Status == 304 || a.Status >= 100 && a.Status < 200 {
		return none, api.OK
	}
	return wantFrame(a.Minor, a.Fields, toClose)
}

func wantPersistent(minor int, l []api.Field) bool {
	_, options := joined(l, conn)
	return !closeForm.MatchString(options) && (minor == 1 || keepForm.MatchString(options))
}

func checkRequest(t *testing.T, r api.Request) {
	t.Helper()
	got, e := framing.OfRequest(r)
	if want, wantE := wantFrame(r.Minor, r.Fields, none); got != want || e != wantE {
		t.Fatalf("OfRequest(%q) = %v, %d, want %v, %d", r.Fields, got, e, want, wantE)
	}
}

func checkReply(t *testing.T, method string, a api.Reply) {
	t.Helper()
	got, e := framing.OfReply(method, a)
	if want, wantE := wantReply(method, a); got != want || e != wantE {
		t.Fatalf("OfReply(%q, %d, %q) = %v, %d, want %v, %d", method, a.Status, a.Fields, got, e, want, wantE)
	}
}

// check compares all functions with the oracle; it does so twice, since nothing is kept from call to call.
func check(t *testing.T, minor int, l []api.Field) {
	t.Helper()
	before := slices.Clone(l)
	for range 2 {
		checkRequest(t, api.Request{Minor: minor, Fields: l})
		checkReply(t, "GET", api.Reply{Status: 200, Minor: minor, Fields: l})
		checkReply(t, "HEAD", api.Reply{Status: 200, Minor: minor, Fields: l})
		checkReply(t, "GET", api.Reply{Status: 304, Minor: minor, Fields: l})
		if got, want := framing.Persistent(minor, l), wantPersistent(minor, l); got != want {
			t.Fatalf("Persistent(%d, %q) = %v", minor, l, got)
		}
	}
	if !slices.Equal(l, before) {
		t.Fatalf("%q is changed to %q", before, l)
	}
}

func allBytes() string {
	b := make([]byte, 256)
	for i := range b {
		b[i] = byte(i)
	}
	return string(b)
}

// words returns all strings of at most n bytes of the alphabet.
func words(alphabet string, n int) []string {
	l := []string{""}
	for first := 0; n > 0; n-- {
		last := len(l)
		for _, w := range l[first:last] {
			for i := range len(alphabet) {
				l = append(l, w+alphabet[i:i+1])
			}
		}
		first = last
	}
	return l
}

// edits returns the strings that differ from s in one byte that is missing,
// replaced or added, for every byte there is.
func edits(s string) []string {
	all := allBytes()
	var l []string
	for at := range len(s) + 1 {
		for i := range all {
			l = append(l, s[:at]+all[i:i+1]+s[at:])
			if at < len(s) {
				l = append(l, s[:at]+all[i:i+1]+s[at+1:])
			}
		}
		if at < len(s) {
			l = append(l, s[:at]+s[at+1:])
		}
	}
	return l
}

// lists returns all lists of at most n of the fields, also with one field several times.
func lists(fields []api.Field, n int) [][]api.Field {
	l := [][]api.Field{nil}
	for first := 0; n > 0; n-- {
		last := len(l)
		for _, x := range l[first:last] {
			for _, f := range fields {
				l = append(l, append(slices.Clone(x), f))
			}
		}
		first = last
	}
	return l
}

func random(r *rand.Rand, alphabet string, most int) string {
	b := make([]byte, r.Intn(most+1))
	for i := range b {
		b[i] = alphabet[r.Intn(len(alphabet))]
	}
	return string(b)
}

func pick[E any](r *rand.Rand, l ...E) E { return l[r.Intn(len(l))] }

// recased returns s with some of its letters in the other case.
func recased(r *rand.Rand, s string) string {
	b := []byte(s)
	for i, c := range b {
		if (c|32) >= 'a' && (c|32) <= 'z' && r.Intn(3) == 0 {
			b[i] ^= 32
		}
	}
	return string(b)
}

func randomValue(r *rand.Rand) string {
	word := pick(r, "chunked", "close", "keep-alive", "gzip", "identity", "x", "5", "0", "1000000000", "1000000001", "")
	switch r.Intn(6) {
	case 0:
		return random(r, allBytes(), 12)
	case 1:
		return random(r, "0123456789", 24)
	case 2:
		return random(r, ", \t", 3) + recased(r, word) + random(r, ", \t", 3)
	case 3:
		return recased(r, word) + pick(r, ",", ", ", " ,\t", ";", " ", "=") + recased(r, pick(r, "chunked", "close", "keep-alive", "5", "y"))
	}
	return recased(r, word)
}

func randomField(r *rand.Rand) api.Field {
	name := recased(r, pick(r, te, cl, conn, "Keep-Alive", "TE", "Host", "Proxy-Connection", "Transfer-Encodin", "Content-Lengths", "Trailer"))
	switch r.Intn(10) {
	case 0:
		name = random(r, allBytes(), 10)
	case 1:
		name += random(r, allBytes(), 1)
	}
	return api.Field{Name: name, Value: randomValue(r)}
}

func randomFields(r *rand.Rand) []api.Field {
	l := make([]api.Field, r.Intn(5))
	for i := range l {
		l[i] = randomField(r)
	}
	return l
}

// frames has named cases: what the fields of a message of HTTP/1.1 declare, a length or nothing.
var frames = []struct {
	l    []api.Field
	want api.Frame
	e    api.Errno
}{
	{nil, none, api.OK},
	{[]api.Field{}, none, api.OK},
	{of("Host", "a", "Accept", "*/*"), none, api.OK},
	{of("Content-Type", "5", "TE", "chunked", "Trailer", "a", "Encoding", "chunked", "Length", "5", "", "5"), none, api.OK},
	{of("Transfer-Encoding ", "chunked", "Content-Length:", "5", "Content_Length", "5", "Content-Lengt\xe8", "5"), none, api.OK},

	{of(te, "chunked"), chunked, api.OK},
	{of("transfer-encoding", "CHUNKED"), chunked, api.OK},
	{of("TRANSFER-ENCODING", "Chunked"), chunked, api.OK},
	{of(te, ", chunked\t, ,"), chunked, api.OK},
	{of(te, " chunked "), chunked, api.OK},
	{of(te, "", te, "chunked", te, ","), chunked, api.OK},
	{of("Host", "a", te, "chunked", conn, "close"), chunked, api.OK},

	{of(te, ""), api.Frame{}, api.ErrFraming},
	{of(te, " , ,\t"), api.Frame{}, api.ErrFraming},
	{of(te, "identity"), api.Frame{}, api.ErrFraming},
	{of(te, "gzip"), api.Frame{}, api.ErrFraming},
	{of(te, "gzip, chunked"), api.Frame{}, api.ErrFraming},
	{of(te, "chunked, gzip"), api.Frame{}, api.ErrFraming},
	{of(te, "chunked, identity"), api.Frame{}, api.ErrFraming},
	{of(te, "chunked, chunked"), api.Frame{}, api.ErrFraming},
	{of(te, "chunked,chunked"), api.Frame{}, api.ErrFraming},
	{of(te, "chunked", te, "chunked"), api.Frame{}, api.ErrFraming},
	{of(te, "chunked", "transfer-ENCODING", "gzip"), api.Frame{}, api.ErrFraming},
	{of(te, "gzip", te, "chunked"), api.Frame{}, api.ErrFraming},
	{of(te, "chunked chunked"), api.Frame{}, api.ErrFraming},
	{of(te, "chunked;a=b"), api.Frame{}, api.ErrFraming},
	{of(te, "\"chunked\""), api.Frame{}, api.ErrFraming},
	{of(te, "xchunked"), api.Frame{}, api.ErrFraming},
	{of(te, "chunke"), api.Frame{}, api.ErrFraming},
	{of(te, "chunkeds"), api.Frame{}, api.ErrFraming},
	{of(te, "chun,ked"), api.Frame{}, api.ErrFraming},
	{of(te, "\x0bchunked"), api.Frame{}, api.ErrFraming},
	{of(te, "chunked\r"), api.Frame{}, api.ErrFraming},
	{of(te, "chunked\x00"), api.Frame{}, api.ErrFraming},
	{of(te, "\u00a0chunked"), api.Frame{}, api.ErrFraming},
	{of(te, "chun\u212aed"), api.Frame{}, api.ErrFraming},

	{of(te, "chunked", cl, "5"), api.Frame{}, api.ErrFraming},
	{of(cl, "5", te, "chunked"), api.Frame{}, api.ErrFraming},
	{of(cl, "5", te, "identity"), api.Frame{}, api.ErrFraming},
	{of(cl, "5", te, ""), api.Frame{}, api.ErrFraming},
	{of(te, "chunked", cl, ""), api.Frame{}, api.ErrFraming},
	{of(te, "chunked", cl, "x"), api.Frame{}, api.ErrFraming},
	{of(te, "chunked", cl, "1000000001"), api.Frame{}, api.ErrFraming},
	{of(te, "", cl, "1000000001"), api.Frame{}, api.ErrFraming},
	{of("transfer-encoding", "chunked", "content-length", "0"), api.Frame{}, api.ErrFraming},

	{of(cl, "0"), length(0), api.OK},
	{of(cl, "5"), length(5), api.OK},
	{of("content-length", "5"), length(5), api.OK},
	{of("CONTENT-LENGTH", "5"), length(5), api.OK},
	{of("Host", "a", cl, "005", conn, "close"), length(5), api.OK},
	{of(cl, "0000000000000000000000000"), length(0), api.OK},
	{of(cl, "999999999"), length(999999999), api.OK},
	{of(cl, "1000000000"), length(1000000000), api.OK},
	{of(cl, "00000000000000000000001000000000"), length(1000000000), api.OK},

	{of(cl, "1000000001"), api.Frame{}, api.ErrLimit},
	{of(cl, "2000000000"), api.Frame{}, api.ErrLimit},
	{of(cl, "10000000000"), api.Frame{}, api.ErrLimit},
	{of(cl, "4294967296"), api.Frame{}, api.ErrLimit},
	{of(cl, "4294967301"), api.Frame{}, api.ErrLimit},
	{of(cl, "9223372036854775807"), api.Frame{}, api.ErrLimit},
	{of(cl, "9223372036854775808"), api.Frame{}, api.ErrLimit},
	{of(cl, "18446744073709551616"), api.Frame{}, api.ErrLimit},
	{of(cl, "18446744073709551621"), api.Frame{}, api.ErrLimit},
	{of(cl, "99999999999999999999999999999999999999999"), api.Frame{}, api.ErrLimit},
	{of(cl, "0000000000000000001000000001"), api.Frame{}, api.ErrLimit},

	{of(cl, ""), api.Frame{}, api.ErrFraming},
	{of(cl, " "), api.Frame{}, api.ErrFraming},
	{of(cl, " 5"), api.Frame{}, api.ErrFraming},
	{of(cl, "5 "), api.Frame{}, api.ErrFraming},
	{of(cl, "5\t"), api.Frame{}, api.ErrFraming},
	{of(cl, "5\r\n"), api.Frame{}, api.ErrFraming},
	{of(cl, "5 5"), api.Frame{}, api.ErrFraming},
	{of(cl, "5,5"), api.Frame{}, api.ErrFraming},
	{of(cl, "5, 5"), api.Frame{}, api.ErrFraming},
	{of(cl, "5,"), api.Frame{}, api.ErrFraming},
	{of(cl, ",5"), api.Frame{}, api.ErrFraming},
	{of(cl, "+5"), api.Frame{}, api.ErrFraming},
	{of(cl, "-5"), api.Frame{}, api.ErrFraming},
	{of(cl, "-0"), api.Frame{}, api.ErrFraming},
	{of(cl, "5.0"), api.Frame{}, api.ErrFraming},
	{of(cl, "1e3"), api.Frame{}, api.ErrFraming},
	{of(cl, "1_0"), api.Frame{}, api.ErrFraming},
	{of(cl, "0x5"), api.Frame{}, api.ErrFraming},
	{of(cl, "0b1"), api.Frame{}, api.ErrFraming},
	{of(cl, "a"), api.Frame{}, api.ErrFraming},
	{of(cl, "5/"), api.Frame{}, api.ErrFraming},
	{of(cl, "5:"), api.Frame{}, api.ErrFraming},
	{of(cl, "\x005"), api.Frame{}, api.ErrFraming},
	{of(cl, "\u0665"), api.Frame{}, api.ErrFraming},
	{of(cl, "\xb5"), api.Frame{}, api.ErrFraming},
	{of(cl, "9999999999999999999999x"), api.Frame{}, api.ErrFraming},
	{of(cl, "1000000001 "), api.Frame{}, api.ErrFraming},

	{of(cl, "5", cl, "5"), api.Frame{}, api.ErrFraming},
	{of(cl, "5", cl, "6"), api.Frame{}, api.ErrFraming},
	{of(cl, "5", "content-length", "5"), api.Frame{}, api.ErrFraming},
	{of(cl, "5", "Host", "a", cl, ""), api.Frame{}, api.ErrFraming},
	{of(cl, "", cl, "5"), api.Frame{}, api.ErrFraming},
	{of(cl, "", cl, ""), api.Frame{}, api.ErrFraming},
	{of(cl, "1000000001", cl, "1000000001"), api.Frame{}, api.ErrFraming},
	{of(cl, "1", cl, "1", cl, "1"), api.Frame{}, api.ErrFraming},
}

// P8.1

func TestOfRequest(t *testing.T) {
	for _, x := range frames {
		if got, e := framing.OfRequest(api.Request{Minor: 1, Fields: x.l}); got != x.want || e != x.e {
			t.Errorf("the frame of %q is %v, %d, want %v, %d", x.l, got, e, x.want, x.e)
		}
	}
}

// HTTP/1.0 has no transfer codings, and the same lengths.
func TestOfRequestMinorZero(t *testing.T) {
	for _, x := range frames {
		want, wantE := x.want, x.e
		if want == chunked {
			want, wantE = api.Frame{}, api.ErrFraming
		}
		if got, e := framing.OfRequest(api.Request{Minor: 0, Fields: x.l}); got != want || e != wantE {
			t.Errorf("the frame of %q is %v, %d, want %v, %d", x.l, got, e, want, wantE)
		}
	}
}

// Minor and Fields alone decide.
func TestOfRequestOtherParts(t *testing.T) {
	for _, x := range frames {
		for _, method := range methods {
			for _, body := range [][]byte{nil, []byte("0\r\n\r\n")} {
				r := api.Request{Method: method, Target: "/a" + method, Minor: 1, Fields: x.l, Framed: body != nil, Body: body}
				if got, e := framing.OfRequest(r); got != x.want || e != x.e {
					t.Errorf("the frame of %q with %q is %v, %d, want %v, %d", x.l, method, got, e, x.want, x.e)
				}
			}
		}
	}
}

// All values of a few bytes that matter, and all that differ from a good one in a byte.
func TestLengths(t *testing.T) {
	for _, s := range words("059+- ,x/:\x00\xb2", 4) {
		check(t, 1, of(cl, s))
	}
	for _, s := range []string{"", "5", "00", "1000000000", "1000000001", "999999999"} {
		for _, x := range edits(s) {
			check(t, 1, of(cl, x))
			check(t, 0, of(cl, x))
		}
	}
	for n := 999999000; n <= 1000001000; n++ {
		x := big.NewInt(int64(n)).String()
		check(t, 1, of(cl, x))
		check(t, 1, of(cl, "0"+x))
	}
}

// Numbers near the powers of two, where a sum could wrap.
func TestLengthsDoNotWrap(t *testing.T) {
	for bits := range 200 {
		power := new(big.Int).Lsh(big.NewInt(1), uint(bits))
		for d := int64(-3); d <= 12; d++ {
			n := new(big.Int).Add(power, big.NewInt(d))
			if n.Sign() >= 0 {
				check(t, 1, of(cl, n.String()))
			}
			check(t, 1, of(cl, n.Add(n, big.NewInt(1000000000)).String()))
		}
	}
}

func TestCodings(t *testing.T) {
	for _, s := range []string{"chunked", " Chunked\t", ",chunked,", "gzip,chunked", "chunked,chunked", ""} {
		for _, x := range edits(s) {
			check(t, 1, of(te, x))
			check(t, 0, of(te, x))
		}
	}
	parts := []string{"chunked", "CHUNKED", "gzip", ",", " ", "\t", ";", "", "x"}
	for _, a := range parts {
		for _, b := range parts {
			for _, c := range parts {
				check(t, 1, of(te, a+b+c))
				check(t, 1, of(te, a, te, b+c))
				check(t, 1, of(te, a, "transfer-encoding", b, "Host", "a", "TRANSFER-ENCODING", c))
			}
		}
	}
}

// All names that differ from one that matters in a byte.
func TestNames(t *testing.T) {
	for _, name := range []string{te, cl, conn} {
		for _, x := range edits(name) {
			check(t, 1, of(x, "chunked"))
			check(t, 1, of(x, "5"))
			check(t, 1, of(cl, "5", x, "5"))
			check(t, 1, of(te, "chunked", x, "5"))
			check(t, 1, of(x, "close"))
			check(t, 0, of(x, "keep-alive"))
		}
	}
}

// All lists of a few fields that matter, in every order.
func TestLists(t *testing.T) {
	fields := of(
		te, "chunked", "transfer-encoding", "Chunked", te, "gzip", te, "", cl, "5", "content-length", "6", cl, "1000000001", cl, "x", cl, "",
		conn, "close", "connection", "x, Keep-Alive", conn, "", "Host", "a",
	)
	for _, l := range lists(fields, 3) {
		for _, minor := range minors {
			check(t, minor, l)
		}
	}
	for _, l := range lists(fields[:9], 4) {
		check(t, 1, l)
	}
}

func TestArbitrary(t *testing.T) {
	r := rand.New(rand.NewSource(1))
	for range 60000 {
		l := randomFields(r)
		check(t, pick(r, minors...), l)
		checkRequest(t, api.Request{
			Method: pick(r, methods...), Target: random(r, allBytes(), 5), Minor: r.Intn(2), Fields: l, Framed: r.Intn(2) == 0, Body: []byte(random(r, allBytes(), 5)),
		})
		checkReply(t, recased(r, pick(r, methods...)), api.Reply{
			Status: pick(r, append(statuses, r.Intn(1000), int(r.Uint64()))...), Reason: random(r, allBytes(), 5), Minor: r.Intn(2), Fields: l, Body: []byte(random(r, allBytes(), 5)),
		})
	}
}

// P8.2

func TestOfReply(t *testing.T) {
	for _, x := range frames {
		want := x.want
		if want == none {
			want = toClose
		}
		for _, method := range []string{"GET", "POST", "head", "CONNECT", ""} {
			for _, status := range []int{200, 203, 205, 206, 303, 305, 404, 500, 99, 0} {
				a := api.Reply{Status: status, Minor: 1, Fields: x.l}
				if got, e := framing.OfReply(method, a); got != want || e != x.e {
					t.Errorf("the frame of a reply %d to %q with %q is %v, %d, want %v, %d", status, method, x.l, got, e, want, x.e)
				}
			}
		}
	}
}

func TestOfReplyMinorZero(t *testing.T) {
	for _, x := range []struct {
		l    []api.Field
		want api.Frame
		e    api.Errno
	}{
		{nil, toClose, api.OK}, {of(cl, "5"), length(5), api.OK}, {of(conn, "close"), toClose, api.OK}, {of(te, "chunked"), api.Frame{}, api.ErrFraming},
		{of(cl, "1000000001"), api.Frame{}, api.ErrLimit}, {of(cl, "x"), api.Frame{}, api.ErrFraming},
	} {
		if got, e := framing.OfReply("GET", api.Reply{Status: 200, Fields: x.l}); got != x.want || e != x.e {
			t.Errorf("the frame of a reply with %q is %v, %d, want %v, %d", x.l, got, e, x.want, x.e)
		}
	}
}

// A reply that never has a body has none whatever its fields are, also bad ones.
func TestBodilessReplies(t *testing.T) {
	for _, x := range frames {
		for _, minor := range minors {
			for _, status := range []int{200, 204, 304, 100, 404, 0, -1} {
				if got, e := framing.OfReply("HEAD", api.Reply{Status: status, Minor: minor, Fields: x.l}); got != none || e != api.OK {
					t.Errorf("the frame of a reply %d to HEAD with %q is %v, %d", status, x.l, got, e)
				}
			}
			for _, status := range []int{100, 101, 103, 150, 198, 199, 204, 304} {
				for _, method := range []string{"GET", "HEAD", "POST", "CONNECT", ""} {
					if got, e := framing.OfReply(method, api.Reply{Status: status, Minor: minor, Fields: x.l}); got != none || e != api.OK {
						t.Errorf("the frame of a reply %d to %q with %q is %v, %d", status, method, x.l, got, e)
					}
				}
			}
		}
	}
}

func TestMethodsAndStatuses(t *testing.T) {
	samples := [][]api.Field{nil, of(cl, "5"), of(te, "chunked"), of(cl, "x"), of(cl, "1000000001"), of(cl, "5", te, "chunked")}
	for _, l := range samples {
		for status := -1000; status <= 5000; status++ {
			checkReply(t, "GET", api.Reply{Status: status, Minor: 1, Fields: l})
			checkReply(t, "HEAD", api.Reply{Status: status, Minor: 1, Fields: l})
		}
		for _, method := range slices.Concat(methods, edits("HEAD")) {
			for _, status := range statuses {
				checkReply(t, method, api.Reply{Status: status, Minor: 1, Fields: l})
			}
		}
	}
}

// Method, Status, Minor and Fields alone decide.
func TestOfReplyOtherParts(t *testing.T) {
	for _, x := range frames {
		for _, status := range []int{200, 204} {
			bare, bareE := framing.OfReply("GET", api.Reply{Status: status, Minor: 1, Fields: x.l})
			full, fullE := framing.OfReply("GET", api.Reply{Status: status, Minor: 1, Fields: x.l, Reason: "204 HEAD", Body: []byte("abc")})
			if bare != full || bareE != fullE {
				t.Errorf("the frame of a reply %d with %q is %v, %d, and with a body %v, %d", status, x.l, bare, bareE, full, fullE)
			}
		}
	}
}

// P8.3

func TestPersistent(t *testing.T) {
	for _, x := range []struct {
		l         []api.Field
		zero, one bool
	}{
		{nil, false, true}, {[]api.Field{}, false, true}, {of("Host", "a"), false, true},
		{of(conn, ""), false, true}, {of(conn, " , ,"), false, true}, {of(conn, "x"), false, true}, {of(conn, "upgrade, te"), false, true},

		{of(conn, "close"), false, false}, {of("connection", "CLOSE"), false, false}, {of("CONNECTION", "Close"), false, false},
		{of(conn, "x, close"), false, false}, {of(conn, "close, x"), false, false}, {of(conn, ",\tclose ,"), false, false}, {of(conn, "x,close,y"), false, false},
		{of(conn, "x", conn, "close"), false, false}, {of(conn, "close", "Host", "a", "connection", "x"), false, false},

		{of(conn, "keep-alive"), true, true}, {of("connection", "KEEP-ALIVE"), true, true}, {of("CONNECTION", "Keep-Alive"), true, true},
		{of(conn, "x, keep-alive"), true, true}, {of(conn, "keep-alive, x"), true, true}, {of(conn, ",\tkeep-alive ,"), true, true},
		{of(conn, "x", "connection", "keep-alive"), true, true}, {of(conn, "keep-alive", conn, ""), true, true},

		{of(conn, "keep-alive, close"), false, false}, {of(conn, "close, keep-alive"), false, false},
		{of(conn, "keep-alive", conn, "close"), false, false}, {of(conn, "close", "connection", "keep-alive"), false, false}, {of(conn, "close, close"), false, false},

		{of(conn, "closed"), false, true}, {of(conn, "xclose"), false, true}, {of(conn, "clos"), false, true}, {of(conn, "close x"), false, true},
		{of(conn, "close;a"), false, true}, {of(conn, "\"close\""), false, true}, {of(conn, "clo,se"), false, true}, {of(conn, "close\r"), false, true},
		{of(conn, "clo\u017fe"), false, true}, {of(conn, "\x0bclose"), false, true}, {of(conn, "close\x00"), false, true},
		{of(conn, "keepalive"), false, true}, {of(conn, "keep_alive"), false, true}, {of(conn, "keep-alive x"), false, true}, {of(conn, "keep-alives"), false, true},
		{of(conn, "keep,-alive"), false, true}, {of(conn, "\u212aeep-alive"), false, true}, {of(conn, "keep-alive=1"), false, true},

		{of("Keep-Alive", "keep-alive"), false, true}, {of("Keep-Alive", "timeout=5"), false, true}, {of("Close", "close"), false, true},
		{of("Proxy-Connection", "close"), false, true}, {of("Proxy-Connection", "keep-alive"), false, true}, {of("Connection ", "close"), false, true},
		{of("Connections", "close"), false, true}, {of("", "close"), false, true}, {of("Connectio", "keep-alive"), false, true},
		{of(te, "close", cl, "close"), false, true}, {of("Keep-Alive", "keep-alive", conn, "close"), false, false},
	} {
		for _, minor := range minors {
			want := x.zero
			if minor == 1 {
				want = x.one
			}
			if got := framing.Persistent(minor, x.l); got != want {
				t.Errorf("Persistent(%d, %q) = %v", minor, x.l, got)
			}
		}
	}
}

func TestOptions(t *testing.T) {
	for _, s := range []string{"close", "keep-alive", ", Close\t,", "x,keep-alive", "close,keep-alive", "keep-alive,x"} {
		for _, x := range edits(s) {
			check(t, 1, of(conn, x))
			check(t, 0, of(conn, x))
		}
	}
	parts := []string{"close", "Keep-Alive", "x", ",", " ", "\t", ";", ""}
	for _, a := range parts {
		for _, b := range parts {
			for _, c := range parts {
				for minor := range 3 {
					check(t, minor, of(conn, a+b+c))
					check(t, minor, of(conn, a, conn, b+c))
					check(t, minor, of(conn, a, "connection", b, "Host", "close", "CONNECTION", c))
				}
			}
		}
	}
}

// P8.4

// ambiguous reports whether the fields are among those that P8.4 names.
func ambiguous(l []api.Field) bool {
	codings, coding := joined(l, te)
	lengths, _ := joined(l, cl)
	return lengths > 0 && codings > 0 || lengths > 1 || codings > 0 && strings.Trim(strings.ToLower(coding), " \t,") != "chunked"
}

func checkAmbiguous(t *testing.T, minor int, l []api.Field) {
	t.Helper()
	if f, e := framing.OfRequest(api.Request{Minor: minor, Fields: l}); f != (api.Frame{}) || e == api.OK {
		t.Fatalf("a request with %q is accepted with %v", l, f)
	}
	for _, method := range methods {
		for _, status := range statuses {
			f, e := framing.OfReply(method, api.Reply{Status: status, Minor: minor, Fields: l})
			if f != none && (f != api.Frame{} || e == api.OK) {
				t.Fatalf("a reply %d to %q with %q is accepted with %v", status, method, l, f)
			}
		}
	}
}

func TestAmbiguous(t *testing.T) {
	r := rand.New(rand.NewSource(2))
	found := 0
	for range 20000 {
		l := randomFields(r)
		if ambiguous(l) {
			found++
			checkAmbiguous(t, pick(r, minors...), l)
		}
	}
	if found < 1000 {
		t.Errorf("only %d lists are ambiguous", found)
	}
	for _, l := range [][]api.Field{
		of(te, "chunked", cl, "5"), of(cl, "5", te, "chunked"), of(cl, "0", te, ""), of(cl, "5", cl, "5"), of(cl, "0", "content-length", "0"),
		of(te, "gzip"), of(te, "identity"), of(te, "gzip, chunked"), of(te, "chunked", te, "gzip"), of(te, "chunked, chunked"), of(te, ""),
	} {
		if !ambiguous(l) {
			t.Errorf("%q is not ambiguous", l)
		}
		for _, minor := range minors {
			checkAmbiguous(t, minor, l)
		}
	}
}

// A second field that says where the body ends makes every good message bad, wherever it stands.
func TestSecondField(t *testing.T) {
	for _, x := range frames {
		if x.e != api.OK || x.want == none {
			continue
		}
		for at := range len(x.l) + 1 {
			for _, f := range of(cl, "5", "content-length", "0", te, "gzip", "transfer-encoding", "chunked") {
				checkAmbiguous(t, 1, slices.Insert(slices.Clone(x.l), at, f))
			}
		}
	}
}

// The general rules.

// R2: the fields behind the end of a slice belong to its owner, and do not count.
func TestSpareCapacityStays(t *testing.T) {
	whole := of("Host", "a", te, "chunked", cl, "5", conn, "close")
	l := whole[:1]
	if f, e := framing.OfRequest(api.Request{Minor: 1, Fields: l}); f != none || e != api.OK {
		t.Errorf("%v, %d", f, e)
	}
	if f, e := framing.OfReply("GET", api.Reply{Status: 200, Minor: 1, Fields: l}); f != toClose || e != api.OK {
		t.Errorf("%v, %d", f, e)
	}
	if !framing.Persistent(1, l) {
		t.Error("not persistent")
	}
	if !slices.Equal(whole, of("Host", "a", te, "chunked", cl, "5", conn, "close")) {
		t.Errorf("%q is changed", whole)
	}
}

// Many fields and long values are treated as few and short ones are.
func TestGreat(t *testing.T) {
	var many []api.Field
	for range 100000 {
		many = append(many, of("Host", "a", conn, "x, y", "Content-Lengths", "5")...)
	}
	zeros, nines, commas := strings.Repeat("0", 1000000), strings.Repeat("9", 1000000), strings.Repeat(" ,", 1000000)
	for i, x := range []struct {
		l          []api.Field
		want       api.Frame
		e          api.Errno
		persistent bool
	}{
		{many, none, api.OK, true},
		{slices.Concat(many, of(cl, "5", conn, "close")), length(5), api.OK, false},
		{slices.Concat(of(te, "chunked"), many), chunked, api.OK, true},
		{slices.Concat(of(te, "chunked"), many, of(cl, "5")), api.Frame{}, api.ErrFraming, true},
		{slices.Concat(of(cl, "5"), many, of(cl, "5")), api.Frame{}, api.ErrFraming, true},
		{of(cl, zeros), length(0), api.OK, true},
		{of(cl, zeros+"5"), length(5), api.OK, true},
		{of(cl, zeros+"x"), api.Frame{}, api.ErrFraming, true},
		{of(cl, nines), api.Frame{}, api.ErrLimit, true},
		{of(cl, nines+" "), api.Frame{}, api.ErrFraming, true},
		{of(te, commas), api.Frame{}, api.ErrFraming, true},
		{of(te, commas+"chunked"+commas), chunked, api.OK, true},
		{of(te, commas+"chunked"+commas+"x"), api.Frame{}, api.ErrFraming, true},
		{of(conn, commas+"close"+commas), none, api.OK, false},
	} {
		if got, e := framing.OfRequest(api.Request{Minor: 1, Fields: x.l}); got != x.want || e != x.e {
			t.Errorf("%d: the frame is %v, %d, want %v, %d", i, got, e, x.want, x.e)
		}
		if framing.Persistent(1, x.l) != x.persistent {
			t.Errorf("%d: persistent is not %v", i, x.persistent)
		}
	}
}
