package reader_test

import (
	"bytes"
	"fmt"
	"math"
	"math/rand"
	"slices"
	"strings"
	"testing"

	"canary/api"
	"canary/reader"
)

// Each promise is checked on named cases, on every text that differs from a
// message in a single byte, on all pieces of a few messages with all rooms and
// limits that matter, and on arbitrary bytes, pieces, rooms, limits and messages,
// valid ones and others, against the oracle; and on arbitrary messages whose
// parts are known because they were put together from them.

const (
	post = "POST / HTTP/1.1\r\nHost: a\r\n"
	old  = "GET / HTTP/1.0\r\n"
	ok   = "HTTP/1.1 200 OK\r\n"
	te   = "Transfer-Encoding: chunked\r\n"
	last = "0\r\n\r\n"
)

// cl returns the line of a field Content-Length.
func cl(n int) string { return fmt.Sprintf("Content-Length: %d\r\n", n) }

func ofRequest() past            { return past{} }
func ofReply(method string) past { return past{start: api.Reader{Reply: true, Method: method}} }

// roomy returns limits with room for everything.
func roomy(most, body int) limits { return limits{most, body, math.MaxInt} }

// begin returns the reader that the package begins with.
func begin(p past) api.Reader {
	if p.start.Reply {
		return reader.ForReply(p.start.Method)
	}
	return reader.ForRequest()
}

// after returns the reader behind all of s, and what it has consumed; it fails if there is none.
func after(t *testing.T, p past, s string) (past, api.Reader) {
	t.Helper()
	r := begin(p)
	for at := 0; at < len(s); {
		var got outcome
		p, got = check(t, p, r, s[at:], limits{1 << 20, api.MaxLength, 1 << 20})
		if got.e != api.OK || got.n == 0 {
			t.Fatalf("Next(%+v, %q) = %+v", r, s[at:], got)
		}
		r, at = got.reader, at+got.n
	}
	return p, r
}

// result is what there is to see of a whole message, or of as much as was there.
type result struct {
	reader api.Reader
	kinds  []int
	body   string
	n      int
	e      api.Errno
}

func sameResult(a, b result) bool {
	return sameReader(a.reader, b.reader) && slices.Equal(a.kinds, b.kinds) && a.body == b.body && a.n == b.n && a.e == b.e
}

// read reads the message in s. Before each call, cut says how many bytes more
// are there when the last one did not get any further, and the room. Each call
// is given to see, which makes it.
func read(p past, s string, cut func() (size, room int), see func(p past, r api.Reader, b string, room int) (past, outcome)) result {
	x := result{reader: begin(p)}
	var body strings.Builder
	for there := 0; ; {
		size, room := cut()
		var got outcome
		p, got = see(p, x.reader, s[x.n:there], room)
		if got.e != api.OK {
			// How much of the body came before an error depends on the pieces.
			return result{e: got.e}
		}
		x.reader, x.n = got.reader, x.n+got.n
		switch {
		case got.part.Kind == api.PartData:
			body.Write(got.part.Data)
		case got.part.Kind != api.PartNone:
			x.kinds = append(x.kinds, got.part.Kind)
		case got.n == 0 && there == len(s) && room > 0:
			x.body = body.String()
			return x
		case got.n == 0:
			there = min(there+size, len(s))
		}
	}
}

// checked reads the message in s, and compares each call with the oracle.
func checked(t *testing.T, p past, s string, most, body int, cut func() (size, room int)) result {
	t.Helper()
	return read(p, s, cut, func(p past, r api.Reader, b string, room int) (past, outcome) {
		return check(t, p, r, b, limits{most, body, room})
	})
}

// plain reads the message in s, and compares nothing.
func plain(p past, s string, most, body int, cut func() (size, room int)) result {
	return read(p, s, cut, func(p past, r api.Reader, b string, room int) (past, outcome) {
		return p, call(r, []byte(b), limits{most, body, room})
	})
}

// always returns a cut of pieces of one size, with one room.
func always(size, room int) func() (int, int) {
	return func() (int, int) { return size, room }
}

// halves returns a cut of two pieces, the first of which has this size.
func halves(size, room int) func() (int, int) {
	first := true
	return func() (int, int) {
		if first {
			first = false
			return size, room
		}
		return math.MaxInt / 2, room
	}
}

func allBytes() string {
	b := make([]byte, 256)
	for i := range b {
		b[i] = byte(i)
	}
	return string(b)
}

// words returns all strings of at most n bytes of the alphabet.
func words(alphabet string, n int) []string {
	l := []string{""}
	for first := 0; n > 0; n-- {
		last := len(l)
		for _, w := range l[first:last] {
			for i := range len(alphabet) {
				l = append(l, w+alphabet[i:i+1])
			}
		}
		first = last
	}
	return l
}

// edits returns the strings that differ from s in one byte that is missing, or
// is replaced by one of the alphabet, or is one of the alphabet and was added.
func edits(s, alphabet string) []string {
	var l []string
	for at := range len(s) + 1 {
		for i := range len(alphabet) {
			l = append(l, s[:at]+alphabet[i:i+1]+s[at:])
			if at < len(s) {
				l = append(l, s[:at]+alphabet[i:i+1]+s[at+1:])
			}
		}
		if at < len(s) {
			l = append(l, s[:at]+s[at+1:])
		}
	}
	return l
}

func random(r *rand.Rand, alphabet string, most int) string {
	b := make([]byte, r.Intn(most+1))
	for i := range b {
		b[i] = alphabet[r.Intn(len(alphabet))]
	}
	return string(b)
}

func pick[E any](r *rand.Rand, l ...E) E { return l[r.Intn(len(l))] }

func randomNumber(r *rand.Rand) int {
	return pick(r, 0, 1, 2, -1, -2, -3, r.Intn(100), -r.Intn(100), api.MaxLength, api.MaxLength+1, int(r.Uint64()), math.MaxInt, math.MaxInt-1, math.MinInt, math.MinInt+1)
}

// of makes fields of names and values.
func of(l ...string) []api.Field {
	var fields []api.Field
	for i := 0; i < len(l); i += 2 {
		fields = append(fields, api.Field{Name: l[i], Value: l[i+1]})
	}
	return fields
}

// whole is a message with what is known about it.
type whole struct {
	p     past
	s     string
	body  string
	kinds []int
	n     int
	ends  bool
}

var (
	headAndEnd = []int{api.PartHead, api.PartEnd}
	headOnly   = []int{api.PartHead}
)

// wholes has messages with all kinds of frames, and bytes behind them.
var wholes = []whole{
	{ofRequest(), post + end + "GET", "", headAndEnd, len(post) + 2, true},
	{ofRequest(), old + end + "x", "", headAndEnd, len(old) + 2, true},
	{ofRequest(), post + cl(3) + end + "abcGET", "abc", headAndEnd, len(post) + 24, true},
	{ofRequest(), post + cl(0) + end + "abc", "", headAndEnd, len(post) + 21, true},
	{ofRequest(), post + cl(5) + end + "\r\n\r\n0\r\n", "\r\n\r\n0", headAndEnd, len(post) + 26, true},
	{ofRequest(), old + cl(2) + end + "ab" + "\r\n", "ab", headAndEnd, len(old) + 23, true},
	{ofRequest(), post + cl(3) + end + "ab", "ab", headOnly, len(post) + 23, false},
	{ofRequest(), post + te + end + "3\r\nabc\r\n1;x=y\r\nd\r\n" + last + "GET", "abcd", headAndEnd, len(post) + 53, true},
	{ofRequest(), post + te + end + last + last, "", headAndEnd, len(post) + 35, true},
	{ofRequest(), post + te + end + "2\r\n\r\n\r\n00\r\nA: b\r\n\r\nz", "\r\n", headAndEnd, len(post) + 49, true},
	{ofRequest(), post + te + end + "3\r\nabc\r\n0\r\n\r", "abc", headOnly, len(post) + 42, false},
	{ofRequest(), old, "", nil, 0, false},
	{ofRequest(), "", "", nil, 0, false},
	{ofReply("GET"), ok + end + "ab\r\n\r\n", "ab\r\n\r\n", headOnly, 25, true},
	{ofReply("GET"), ok + end, "", headOnly, 19, true},
	{ofReply("GET"), ok + cl(2) + end + "abc", "ab", headAndEnd, 40, true},
	{ofReply("GET"), ok + te + end + "1\r\na\r\n" + last + "b", "a", headAndEnd, 58, true},
	{ofReply("HEAD"), ok + cl(5) + end + "abcde", "", headAndEnd, 38, true},
	{ofReply("HEAD"), ok + te + end + last, "", headAndEnd, 47, true},
	{ofReply("POST"), "HTTP/1.1 304 No\r\n" + cl(5) + end + "HTTP", "", headAndEnd, 38, true},
	{ofReply("GET"), "HTTP/1.1 100 Go\r\n\r\nHTTP/1.1 103 a\r\nb: c\r\n\r\nHTTP/1.1 204 No\r\n\r\nx", "", []int{api.PartInterim, api.PartInterim, api.PartHead, api.PartEnd}, 62, true},
	{ofReply("GET"), "HTTP/1.1 199 \r\n\r\n" + ok + cl(1) + end + "ab", "a", []int{api.PartInterim, api.PartHead, api.PartEnd}, 56, true},
	{ofReply("GET"), "HTTP/1.1 102\r\n\r\nHTTP/1.1", "", []int{api.PartInterim}, 16, false},
}

// refused has messages that are not accepted with heads of 100 bytes and bodies of 6.
var refused = []struct {
	p past
	s string
	e api.Errno
}{
	{ofRequest(), strings.Repeat("a", 100), api.ErrLimit},
	{ofRequest(), post + "A: " + strings.Repeat("b", 90) + headEnd, api.ErrLimit},
	{ofRequest(), "a" + headEnd, api.ErrSyntax},
	{ofRequest(), "GET / HTTP/1.1" + headEnd, api.ErrSyntax},
	{ofRequest(), "GET / HTTP/3.0" + headEnd, api.ErrUnknown},
	{ofRequest(), ok + end, api.ErrSyntax},
	{ofRequest(), post + cl(5) + te + end, api.ErrFraming},
	{ofRequest(), post + cl(1) + cl(1) + end, api.ErrFraming},
	{ofRequest(), post + "Content-Length: -1" + headEnd, api.ErrFraming},
	{ofRequest(), post + "Transfer-Encoding: gzip" + headEnd, api.ErrFraming},
	{ofRequest(), old + te + end, api.ErrFraming},
	{ofRequest(), post + cl(7) + end, api.ErrFull},
	{ofRequest(), post + cl(9999999999) + end, api.ErrFull},
	{ofRequest(), post + te + end + "x\r\n", api.ErrSyntax},
	{ofRequest(), post + te + end + "1\r\nab\r\n", api.ErrSyntax},
	{ofRequest(), post + te + end + "0\r\n \r\n", api.ErrSyntax},
	{ofRequest(), post + te + end + "3b9aca01\r\n", api.ErrLimit},
	{ofRequest(), post + te + end + strings.Repeat("0", 129), api.ErrLimit},
	{ofRequest(), post + te + end + "7\r\nabcdefg", api.ErrFull},
	{ofRequest(), post + te + end + "3\r\nabc\r\n4\r\ndefg", api.ErrFull},
	{ofReply("GET"), "HTTP/1.1 101 Up" + headEnd, api.ErrSyntax},
	{ofReply("GET"), "HTTP/2.0 200 OK" + headEnd, api.ErrSyntax},
	{ofReply("GET"), "HTTP/1.1 100 Go" + headEnd + "HTTP/1.1 101 Up" + headEnd, api.ErrSyntax},
	{ofReply("GET"), ok + cl(1) + cl(1) + end, api.ErrFraming},
	{ofReply("GET"), ok + cl(7) + end, api.ErrFull},
	{ofReply("GET"), ok + cl(9999999999) + end, api.ErrFull},
	{ofReply("GET"), ok + end + "abcdefg", api.ErrFull},
	{ofReply("GET"), post + end, api.ErrSyntax},
}

// P11.1

func TestFirstReaders(t *testing.T) {
	if r := reader.ForRequest(); !sameReader(r, api.Reader{}) {
		t.Errorf("ForRequest() = %+v", r)
	}
	for _, method := range []string{"", "GET", "HEAD", "head", " \x00\xff\r\n", strings.Repeat("x", 1000)} {
		if r := reader.ForReply(method); !sameReader(r, api.Reader{Reply: true, Method: method}) {
			t.Errorf("ForReply(%q) = %+v", method, r)
		}
	}
}

// A reader goes on where the one before it stopped, also more than once.
func TestNextContinues(t *testing.T) {
	s := post + te + end + "3\r\nabc\r\n2\r\nde\r\n" + last
	type seen struct {
		kind int
		data string
		n    int
	}
	want := []seen{{api.PartHead, "", len(post) + 30}, {api.PartData, "ab", 5}, {api.PartData, "cd", 7}, {api.PartData, "e", 8}, {api.PartEnd, "", 0}, {api.PartNone, "", 0}, {api.PartNone, "", 0}}
	readers := []api.Reader{reader.ForRequest()}
	for range 2 {
		// The second time, each call begins with a reader that was used before.
		at := 0
		for i, x := range want {
			next, part, n, e := reader.Next(readers[i], []byte(s[at:]), 100, 100, 2)
			if got := (seen{part.Kind, string(part.Data), n}); got != x || e != api.OK {
				t.Fatalf("the call %d returns %+v, %d, want %+v", i, got, e, x)
			}
			readers, at = append(readers, next), at+n
		}
		if r := readers[len(readers)-1]; at != len(s) || r.Phase != api.ReadDone {
			t.Errorf("%d bytes of %d are consumed, %+v", at, len(s), r)
		}
	}
}

// With an error all other results are zero, in each phase.
func TestErrorsAreAlone(t *testing.T) {
	for _, x := range refused {
		r := begin(x.p)
		s, got := x.s, outcome{}
		for range 10 {
			if got = call(r, []byte(s), limits{100, 6, 100}); got.e != api.OK {
				break
			}
			r, s = got.reader, s[got.n:]
		}
		if !sameOutcome(got, outcome{e: x.e}) {
			t.Errorf("Next of %q = %+v, want the error %d alone", x.s, got, x.e)
		}
	}
}

// P11.2

// heads has single calls of Next for a first reader; of the reader after it, the
// message and its frame are given.
var heads = []struct {
	p       past
	s       string
	l       limits
	kind, n int
	want    message
}{
	{ofRequest(), post + end, roomy(100, 0), api.PartHead, 28, message{request: api.Request{Method: "POST", Target: "/", Minor: 1, Fields: of("Host", "a")}, frame: api.Frame{Kind: api.FrameNone}}},
	{ofRequest(), old + end + "x", limits{18, -1, 0}, api.PartHead, 18, message{request: api.Request{Method: "GET", Target: "/"}, frame: api.Frame{Kind: api.FrameNone}}},
	{ofRequest(), old + "A: b\r\nContent-length:  003 \r\n\r\nabc", roomy(100, 3), api.PartHead, 47, message{request: api.Request{Method: "GET", Target: "/", Fields: of("A", "b", "Content-length", "003"), Framed: true}, frame: api.Frame{Kind: api.FrameLength, Length: 3}}},
	{ofRequest(), old + cl(0) + end, limits{100, 0, -1}, api.PartHead, 37, message{request: api.Request{Method: "GET", Target: "/", Fields: of("Content-Length", "0"), Framed: true}, frame: api.Frame{Kind: api.FrameLength}}},
	{ofRequest(), post + te + end + last, roomy(100, -5), api.PartHead, 56, message{request: api.Request{Method: "POST", Target: "/", Minor: 1, Fields: of("Host", "a", "Transfer-Encoding", "chunked"), Framed: true}, frame: api.Frame{Kind: api.FrameChunked}}},
	{ofReply("GET"), ok + end + "ab", roomy(100, 0), api.PartHead, 19, message{answer: api.Reply{Status: 200, Reason: "OK", Minor: 1}, frame: api.Frame{Kind: api.FrameClose}}},
	{ofReply(""), "HTTP/1.0 404 No\r\n" + cl(9) + end, roomy(38, 9), api.PartHead, 38, message{answer: api.Reply{Status: 404, Reason: "No", Fields: of("Content-Length", "9")}, frame: api.Frame{Kind: api.FrameLength, Length: 9}}},
	{ofReply("GET"), ok + te + end, roomy(100, math.MinInt), api.PartHead, 47, message{answer: api.Reply{Status: 200, Reason: "OK", Minor: 1, Fields: of("Transfer-Encoding", "chunked")}, frame: api.Frame{Kind: api.FrameChunked}}},
	{ofReply("HEAD"), ok + cl(7) + end, roomy(100, 6), api.PartHead, 38, message{answer: api.Reply{Status: 200, Reason: "OK", Minor: 1, Fields: of("Content-Length", "7")}, frame: api.Frame{Kind: api.FrameNone}}},
	{ofReply("HEAD"), ok + cl(1) + cl(2) + end, roomy(100, -1), api.PartHead, 57, message{answer: api.Reply{Status: 200, Reason: "OK", Minor: 1, Fields: of("Content-Length", "1", "Content-Length", "2")}, frame: api.Frame{Kind: api.FrameNone}}},
	{ofReply("head"), ok + end, roomy(100, 6), api.PartHead, 19, message{answer: api.Reply{Status: 200, Reason: "OK", Minor: 1}, frame: api.Frame{Kind: api.FrameClose}}},
	{ofReply("GET"), "HTTP/1.1 204\r\n" + te + end, roomy(100, 6), api.PartHead, 44, message{answer: api.Reply{Status: 204, Minor: 1, Fields: of("Transfer-Encoding", "chunked")}, frame: api.Frame{Kind: api.FrameNone}}},
	{ofReply("GET"), "HTTP/1.1 304 a b\r\n" + cl(9) + end, roomy(100, 0), api.PartHead, 39, message{answer: api.Reply{Status: 304, Reason: "a b", Minor: 1, Fields: of("Content-Length", "9")}, frame: api.Frame{Kind: api.FrameNone}}},

	{ofReply("GET"), "HTTP/1.1 100 Go" + headEnd + ok, roomy(100, 0), api.PartInterim, 19, message{}},
	{ofReply("HEAD"), "HTTP/1.0 102" + headEnd, roomy(16, -9), api.PartInterim, 16, message{}},
	{ofReply("GET"), "HTTP/1.1 199 x\r\nA: b" + headEnd, roomy(100, 0), api.PartInterim, 24, message{}},
	{ofReply("GET"), "HTTP/1.1 150\r\n" + cl(1) + te + end, roomy(100, 0), api.PartInterim, 63, message{}},
	{ofReply("GET"), "HTTP/1.1 103\r\n" + cl(99) + end, roomy(100, 0), api.PartInterim, 36, message{}},

	{ofRequest(), "", roomy(100, 6), api.PartNone, 0, message{}},
	{ofRequest(), post + "\r", roomy(100, 6), api.PartNone, 0, message{}},
	{ofRequest(), "\x00\r\r\n\n", roomy(100, 6), api.PartNone, 0, message{}},
	{ofReply("GET"), "HTTP/1.1 101 Up\r\n", roomy(100, 6), api.PartNone, 0, message{}},
	{ofReply("GET"), "HTTP/1.1 100 Go\r\n\r", roomy(19, 6), api.PartNone, 0, message{}},
}

func TestHeads(t *testing.T) {
	for _, x := range heads {
		want := x.p.start
		if x.kind == api.PartHead {
			want.Request, want.Answer, want.Frame = x.want.request, x.want.answer, x.want.frame
			want.Phase, want.Left = api.ReadBody, x.want.frame.Length
		}
		if got := call(begin(x.p), []byte(x.s), x.l); !sameOutcome(got, outcome{want, api.Part{Kind: x.kind}, x.n, api.OK}) {
			t.Errorf("Next of %q, %+v = %+v", x.s, x.l, got)
		}
		check(t, x.p, begin(x.p), x.s, x.l)
	}
}

// draft is a head of a message with a body of this length, and by how many bytes
// the limits differ from what the message needs.
type draft struct {
	start, lines string
	length       int
	most, body   int
}

func (h draft) text() (string, limits) {
	s := h.start + h.lines + cl(h.length) + end
	return s, limits{len(s) + h.most, h.length + h.body, 5}
}

// fault is something that is wrong with a head, and the error that it leads to.
type fault struct {
	apply func(h *draft)
	e     api.Errno
}

// The faults of requests and of replies, in the order of their errors. The last
// three are of the frame.
var (
	requestFaults = []fault{
		{func(h *draft) { h.most = -1 }, api.ErrLimit},
		{func(h *draft) { h.lines += "A: b\rc\r\n" }, api.ErrSyntax},
		{func(h *draft) { h.start = "POST / HTTP/2.0\r\n" }, api.ErrUnknown},
		{func(h *draft) { h.lines += strings.Repeat("A: b\r\n", 64) }, api.ErrLimit},
		{func(h *draft) { h.lines = "A b\r\n" + h.lines }, api.ErrSyntax},
		{func(h *draft) { h.lines += "Host: b\r\n" }, api.ErrSyntax},
		{func(h *draft) { h.lines += "Transfer-Encoding: gzip\r\n" }, api.ErrFraming},
		{func(h *draft) { h.length = 1000000001 }, api.ErrFull},
		{func(h *draft) { h.body = -1 }, api.ErrFull},
	}
	replyFaults = []fault{
		{func(h *draft) { h.most = -1 }, api.ErrLimit},
		{func(h *draft) { h.lines += "A: b\nc\r\n" }, api.ErrSyntax},
		{func(h *draft) { h.lines += strings.Repeat("A: b\r\n", 64) }, api.ErrLimit},
		{func(h *draft) { h.lines = "A : b\r\n" + h.lines }, api.ErrSyntax},
		{func(h *draft) { h.start = "HTTP/1.1 101 Up\r\n" }, api.ErrSyntax},
		{func(h *draft) { h.lines += "Transfer-Encoding: gzip\r\n" }, api.ErrFraming},
		{func(h *draft) { h.length = 1000000001 }, api.ErrFull},
		{func(h *draft) { h.body = -1 }, api.ErrFull},
	}
)

// flawed returns h with the faults that are chosen by the bits of a number, and the error of the first one.
func flawed(h draft, faults []fault, chosen int) (draft, api.Errno) {
	first := api.OK
	for i, x := range faults {
		if chosen&(1<<i) == 0 {
			continue
		}
		x.apply(&h)
		if first == api.OK {
			first = x.e
		}
	}
	return h, first
}

func checkDraft(t *testing.T, p past, h draft, kind int, e api.Errno) {
	t.Helper()
	if e != api.OK {
		kind = api.PartNone
	}
	s, l := h.text()
	if _, got := check(t, p, begin(p), s, l); got.part.Kind != kind || got.e != e {
		t.Fatalf("Next of %q, %+v = %+v, want a part %d and %d", s, l, got, kind, e)
	}
}

// All combinations of faults: the first one counts.
func TestHeadErrorsInOrder(t *testing.T) {
	for chosen := range 1 << len(requestFaults) {
		h, e := flawed(draft{start: "POST / HTTP/1.1\r\n", lines: "Host: a\r\n", length: 5}, requestFaults, chosen)
		checkDraft(t, ofRequest(), h, api.PartHead, e)
	}
	for chosen := range 1 << len(replyFaults) {
		h, e := flawed(draft{start: ok, length: 5}, replyFaults, chosen)
		checkDraft(t, ofReply("GET"), h, api.PartHead, e)
	}
	// Faults of the frame do not count for an interim reply, and neither for a reply without a body.
	ofHead, ofFrame := replyFaults[:4], replyFaults[5:]
	for chosen := range 1 << len(ofHead) {
		for more := range 1 << len(ofFrame) {
			h, e := flawed(draft{start: "HTTP/1.1 100 Go\r\n", length: 5}, ofHead, chosen)
			h, _ = flawed(h, ofFrame, more)
			checkDraft(t, ofReply("GET"), h, api.PartInterim, e)
			h.start = ok
			checkDraft(t, ofReply("HEAD"), h, api.PartHead, e)
			h.start = "HTTP/1.1 304 No\r\n"
			checkDraft(t, ofReply("GET"), h, api.PartHead, e)
		}
	}
}

// Each status, with methods and fields that matter, and bodies that are too long or not.
func TestHeadStatuses(t *testing.T) {
	for status := 90; status < 610; status++ {
		for _, method := range []string{"GET", "HEAD", "head", "", "CONNECT"} {
			for _, fields := range []string{"", cl(0), cl(7), te, cl(7) + te, "Content-Length: 9999999999\r\n", "Transfer-Encoding: x\r\n"} {
				for _, body := range []int{-1, 6, 7} {
					for _, minor := range []string{"0", "1"} {
						s := fmt.Sprintf("HTTP/1.%s %d a\r\n%s\r\nabc", minor, status, fields)
						check(t, ofReply(method), reader.ForReply(method), s, limits{100, body, 9})
					}
				}
			}
		}
	}
}

// Each beginning of a head, with each limit, and the head with bytes behind it.
func TestHeadLimits(t *testing.T) {
	for _, x := range []struct {
		p past
		s string
		n int
	}{
		{ofRequest(), post + cl(3) + end + "abc" + headEnd, len(post) + 21},
		{ofRequest(), old + headEnd, 18},
		{ofReply("GET"), "HTTP/1.1 100 \r\n\r\nHTTP", 17},
		{ofReply("GET"), ok + headEnd, 19},
	} {
		for n := range len(x.s) + 1 {
			for most := -2; most <= len(x.s)+2; most++ {
				_, got := check(t, x.p, begin(x.p), x.s[:n], limits{most, 9, 9})
				want := api.OK
				if most < x.n && n >= most {
					want = api.ErrLimit
				}
				if got.e != want || want == api.OK && (got.n > 0) != (n >= x.n) {
					t.Fatalf("Next(%q) for heads of %d bytes = %+v, want %d", x.s[:n], most, got, want)
				}
			}
			for _, most := range []int{math.MinInt, math.MaxInt} {
				check(t, x.p, begin(x.p), x.s[:n], limits{most, 9, 9})
			}
		}
	}
}

// Lengths and limits of bodies around all borders.
func TestHeadLengths(t *testing.T) {
	lengths := []string{"0", "1", "2", "007", "999999999", "1000000000", "1000000001", "4294967296", "9223372036854775807", "9223372036854775808", "18446744073709551616", "-1", "+1", "", "1,1", "0x1", "1 1"}
	bodies := []int{math.MinInt, math.MinInt + 1, -3, -2, -1, 0, 1, 2, 6, 7, 999999998, 999999999, 1000000000, 1000000001, math.MaxInt - 1, math.MaxInt}
	for _, length := range lengths {
		for _, body := range bodies {
			for _, p := range []past{ofRequest(), ofReply("GET"), ofReply("HEAD")} {
				s := post
				if p.start.Reply {
					s = ok
				}
				check(t, p, begin(p), s+"Content-Length: "+length+headEnd+"ab", limits{200, body, 9})
				check(t, p, begin(p), s+te+end+"ab", limits{200, body, 9})
				check(t, p, begin(p), s+end+"ab", limits{200, body, 9})
			}
		}
	}
	r, _, _, e := reader.Next(reader.ForRequest(), []byte(post+cl(1000000000)+end), 200, math.MaxInt, 0)
	if r.Left != 1000000000 || e != api.OK {
		t.Errorf("a body of the greatest length is read as %+v, %d", r, e)
	}
	if _, _, _, e := reader.Next(reader.ForRequest(), []byte(post+cl(1000000001)+end), 200, math.MaxInt, 0); e != api.ErrFull {
		t.Errorf("a body above the greatest length is read, %d", e)
	}
}

// Each text that differs from a message in one byte.
func TestEdits(t *testing.T) {
	for _, x := range wholes {
		for _, s := range edits(x.s, "\r\n\t 019afgzAT:;,-/.\x00\x7f\x80\xff") {
			checked(t, x.p, s, 100, 6, always(len(s), 9))
		}
	}
	for _, s := range edits(post+te+end+"1;x\r\na\r\n0\r\nA:\r\n\r\n", allBytes()) {
		checked(t, ofRequest(), s, 100, 6, always(len(s), 9))
	}
	for _, s := range edits("HTTP/1.1 100 \r\n\r\n"+ok+cl(1)+end+"a", allBytes()) {
		checked(t, ofReply("GET"), s, 100, 6, always(len(s), 9))
	}
}

// An interim reply leaves the reader as it is, however many there are.
func TestInterimReplies(t *testing.T) {
	for _, method := range []string{"GET", "HEAD"} {
		p, r := after(t, ofReply(method), strings.Repeat("HTTP/1.1 100 Go\r\nA: b\r\n\r\n", 100))
		if p.begun || !sameReader(r, reader.ForReply(method)) || reader.Finish(r) {
			t.Errorf("behind interim replies the reader is %+v", r)
		}
	}
	// The limit is that of each head.
	s := strings.Repeat("HTTP/1.1 100 Go\r\n\r\n", 10) + ok + end
	if got := checked(t, ofReply("GET"), s, 19, 0, always(len(s), 1)); got.e != api.OK || got.n != len(s) || len(got.kinds) != 11 {
		t.Errorf("%+v", got)
	}
}

// randomLine returns a line of a head, which is seldom wrong.
func randomLine(r *rand.Rand) string {
	switch r.Intn(40) {
	case 0:
		return pick(r, " folded", "A", "A : b", ":", "A: \x00", "A: b\r", "\n") + end
	case 1:
		return pick(r, "Host", "HOST", "Content-Length", "Transfer-Encoding") + ":" + pick(r, "", "a", "0", "gzip") + end
	}
	return pick(r, "A", "x-y", "!", "Hosts") + ":" + random(r, " \tb:,;\x80\xff", 8) + end
}

// randomHead returns a head with which a message may begin, and what is behind it.
func randomHead(r *rand.Rand, reply bool) string {
	start := pick(r, "GET", "POST", "G\x80") + pick(r, " ", " ", " ", "  ") + "/" + random(r, "a?~\x7f#", 2) + " HTTP/" + pick(r, "1.1", "1.1", "1.0", "2.0", "x") + end
	if reply {
		start = "HTTP/1." + pick(r, "0", "1", "1", "2") + " " + pick(r, "200", "204", "304", "100", "101", "599", "600", "404") + random(r, " a\x80\x00", 3) + end
	}
	lines := []string{"Host: a\r\n"}
	for range pick(r, 0, 1, 2, 5, 62, 63, 64) {
		lines = append(lines, randomLine(r))
	}
	lines = append(lines, pick(r, "", cl(r.Intn(9)), te, cl(r.Intn(9))+te, cl(1000000000+r.Intn(3)), "content-length:"+random(r, "0123", 3)+end, "TRANSFER-encoding: ,Chunked\r\n"))
	r.Shuffle(len(lines), func(i, k int) { lines[i], lines[k] = lines[k], lines[i] })
	return start + strings.Join(lines, "") + pick(r, end, end, end, "", "\r") + random(r, allBytes(), 9)
}

func TestArbitraryHeads(t *testing.T) {
	r := rand.New(rand.NewSource(1))
	found := map[string]int{}
	for range 30000 {
		p := pick(r, ofRequest(), ofReply("GET"), ofReply("HEAD"))
		s := randomHead(r, p.start.Reply)
		most := pick(r, len(s)-r.Intn(12), len(s), 1<<20, 1<<20, randomNumber(r))
		_, got := check(t, p, begin(p), s, limits{most, pick(r, 0, 3, 6, api.MaxLength, randomNumber(r)), randomNumber(r)})
		found[fmt.Sprint(got.part.Kind, got.e)]++
	}
	for _, x := range []string{"0 0", "1 0", "4 0", "0 2", "0 3", "0 5", "0 6", "0 9"} {
		if found[x] < 100 {
			t.Errorf("part and error %s are returned only %d times", x, found[x])
		}
	}
}

// P11.3

// bodies has single calls of Next behind the bytes of before.
var bodies = []struct {
	p         past
	before, b string
	l         limits
	want      outcome // of the reader, what changes
	ended     bool
}{
	// No body.
	{ofRequest(), post + end, "abc", limits{0, 9, 9}, outcome{part: api.Part{Kind: api.PartEnd}}, true},
	{ofRequest(), post + end, "", limits{0, -9, -9}, outcome{part: api.Part{Kind: api.PartEnd}}, true},
	{ofReply("HEAD"), ok + cl(3) + end, "abc", limits{0, 0, 9}, outcome{part: api.Part{Kind: api.PartEnd}}, true},
	{ofRequest(), post + cl(0) + end, "abc", limits{0, 9, 9}, outcome{part: api.Part{Kind: api.PartEnd}}, true},
	{ofRequest(), post + cl(0) + end, "", limits{0, -9, 0}, outcome{part: api.Part{Kind: api.PartEnd}}, true},

	// A body of a length: Left, the room, and the bytes that are there.
	{ofRequest(), post + cl(3) + end, "abcGET", limits{0, 3, 9}, data("abc", 3, api.Reader{Size: 3}), false},
	{ofRequest(), post + cl(3) + end, "abc", limits{0, 3, 3}, data("abc", 3, api.Reader{Size: 3}), false},
	{ofRequest(), post + cl(3) + end, "abc", limits{0, 3, 2}, data("ab", 2, api.Reader{Left: 1, Size: 2}), false},
	{ofRequest(), post + cl(3) + end, "a", limits{0, 3, 2}, data("a", 1, api.Reader{Left: 2, Size: 1}), false},
	{ofRequest(), post + cl(3) + end + "a", "bcd", limits{0, 3, 9}, data("bc", 2, api.Reader{Size: 3}), false},
	{ofRequest(), post + cl(3) + end + "a", "", limits{0, 3, 9}, data("", 0, api.Reader{Left: 2, Size: 1}), false},
	{ofRequest(), post + cl(3) + end + "a", "bcd", limits{0, 3, 0}, data("", 0, api.Reader{Left: 2, Size: 1}), false},
	{ofRequest(), post + cl(3) + end + "a", "bcd", limits{0, 3, -5}, data("", 0, api.Reader{Left: 2, Size: 1}), false},
	{ofRequest(), post + cl(3) + end + "a", "bcd", limits{-5, -5, math.MaxInt}, data("bc", 2, api.Reader{Size: 3}), false},
	{ofRequest(), post + cl(3) + end + "abc", "d", limits{0, 3, 9}, outcome{reader: api.Reader{Size: 3}, part: api.Part{Kind: api.PartEnd}}, true},
	{ofRequest(), post + cl(3) + end + "abc", "", limits{0, -3, -9}, outcome{reader: api.Reader{Size: 3}, part: api.Part{Kind: api.PartEnd}}, true},
	{ofReply("GET"), ok + cl(1000000000) + end, "ab", limits{0, 3, 9}, data("ab", 2, api.Reader{Left: 999999998, Size: 2}), false},

	// A chunked body: data and the end are two parts.
	{ofRequest(), post + te + end, "", limits{0, 9, 9}, data("", 0, api.Reader{}), false},
	{ofRequest(), post + te + end, "3\r", limits{0, 9, 9}, data("", 2, api.Reader{Chunk: api.Chunk{Line: []byte("3\r")}}), false},
	{ofRequest(), post + te + end, "3\r\n", limits{0, 9, 9}, data("", 3, api.Reader{Chunk: api.Chunk{Phase: api.ChunkData, Left: 3}}), false},
	{ofRequest(), post + te + end, "3\r\nab", limits{0, 9, 9}, data("ab", 5, api.Reader{Size: 2, Chunk: api.Chunk{Phase: api.ChunkData, Left: 1}}), false},
	{ofRequest(), post + te + end, "3\r\nabc\r\n2\r\nde", limits{0, 9, 4}, data("abcd", 12, api.Reader{Size: 4, Chunk: api.Chunk{Phase: api.ChunkData, Left: 1}}), false},
	{ofRequest(), post + te + end, "3\r\nabc", limits{0, 9, 0}, data("", 3, api.Reader{Chunk: api.Chunk{Phase: api.ChunkData, Left: 3}}), false},
	{ofRequest(), post + te + end, "3\r\nabc", limits{0, 9, -7}, data("", 3, api.Reader{Chunk: api.Chunk{Phase: api.ChunkData, Left: 3}}), false},
	{ofRequest(), post + te + end, "3\r\nabc\r\n0\r\n\r\nGET", limits{0, 3, 9}, data("abc", 13, api.Reader{Size: 3, Chunk: api.Chunk{Phase: api.ChunkDone, Trailer: 2}}), false},
	{ofRequest(), post + te + end + "3\r\nabc\r\n0\r\n\r\n", "GET", limits{0, 3, 9}, outcome{reader: api.Reader{Size: 3, Chunk: api.Chunk{Phase: api.ChunkDone, Trailer: 2}}, part: api.Part{Kind: api.PartEnd}}, true},
	{ofRequest(), post + te + end + "3\r\nabc", "\r\n0\r\n\r\nGET", limits{0, 3, 0}, outcome{reader: api.Reader{Size: 3, Chunk: api.Chunk{Phase: api.ChunkDone, Trailer: 2}}, part: api.Part{Kind: api.PartEnd}, n: 7}, true},
	{ofRequest(), post + te + end, "0\r\nA: b\r\n\r\n", limits{0, 0, 0}, outcome{reader: api.Reader{Chunk: api.Chunk{Phase: api.ChunkDone, Trailer: 8}}, part: api.Part{Kind: api.PartEnd}, n: 11}, true},
	{ofRequest(), post + te + end, "3b9aca00\r\nab", limits{0, 2, 9}, data("ab", 12, api.Reader{Size: 2, Chunk: api.Chunk{Phase: api.ChunkData, Left: 999999998}}), false},
	{ofRequest(), post + te + end, "3\r\nabc", limits{0, 2, 2}, data("ab", 5, api.Reader{Size: 2, Chunk: api.Chunk{Phase: api.ChunkData, Left: 1}}), false},
	{ofRequest(), post + te + end, "3\r\nabc", limits{0, 2, 3}, outcome{e: api.ErrFull}, false},
	{ofRequest(), post + te + end + "3\r\nab", "c", limits{0, 2, 1}, outcome{e: api.ErrFull}, false},
	{ofRequest(), post + te + end + "3\r\nab", "c", limits{0, 2, 0}, data("", 0, api.Reader{Size: 2, Chunk: api.Chunk{Phase: api.ChunkData, Left: 1}}), false},
	{ofRequest(), post + te + end + "3\r\nab", "c", limits{0, 1, 9}, outcome{e: api.ErrFull}, false},
	{ofRequest(), post + te + end + "3\r\nab", "", limits{0, 1, 9}, outcome{e: api.ErrFull}, false},
	{ofRequest(), post + te + end, "", limits{0, -1, 9}, outcome{e: api.ErrFull}, false},
	// The errors of the coding come first, but those behind the room are not seen.
	{ofRequest(), post + te + end, "3\r\nabc\r\nx\r\n", limits{0, 2, 9}, outcome{e: api.ErrSyntax}, false},
	{ofRequest(), post + te + end, "3\r\nabc3b9aca01\r\n", limits{0, 2, 9}, outcome{e: api.ErrSyntax}, false},
	{ofRequest(), post + te + end, "3\r\nabc\r\n3b9aca01\r\n", limits{0, 2, 9}, outcome{e: api.ErrLimit}, false},
	{ofRequest(), post + te + end, "4\r\nabcdx", limits{0, 2, 9}, outcome{e: api.ErrFull}, false},
	{ofRequest(), post + te + end, "3\r\nabc\n", limits{0, 9, 2}, data("ab", 5, api.Reader{Size: 2, Chunk: api.Chunk{Phase: api.ChunkData, Left: 1}}), false},
	{ofRequest(), post + te + end, "x\r\n", limits{0, -1, 0}, outcome{e: api.ErrSyntax}, false},

	// A body that ends with the connection: one byte too many is seen.
	{ofReply("GET"), ok + end, "abcd", limits{0, 4, 9}, data("abcd", 4, api.Reader{Size: 4}), false},
	{ofReply("GET"), ok + end, "abcd", limits{0, 3, 9}, outcome{e: api.ErrFull}, false},
	{ofReply("GET"), ok + end, "abcd", limits{0, 3, 4}, outcome{e: api.ErrFull}, false},
	{ofReply("GET"), ok + end, "abcd", limits{0, 3, 3}, data("abc", 3, api.Reader{Size: 3}), false},
	{ofReply("GET"), ok + end + "abc", "d", limits{0, 3, 1}, outcome{e: api.ErrFull}, false},
	{ofReply("GET"), ok + end + "abc", "d", limits{0, 3, 0}, data("", 0, api.Reader{Size: 3}), false},
	{ofReply("GET"), ok + end + "abc", "d", limits{0, 3, -1}, data("", 0, api.Reader{Size: 3}), false},
	{ofReply("GET"), ok + end + "abc", "", limits{0, 3, 9}, data("", 0, api.Reader{Size: 3}), false},
	{ofReply("GET"), ok + end + "abc", "d", limits{0, 2, 9}, data("", 0, api.Reader{Size: 3}), false},
	{ofReply("GET"), ok + end + "abc", "d", limits{0, 1, 9}, outcome{e: api.ErrFull}, false},
	{ofReply("GET"), ok + end + "abc", "", limits{0, 1, 0}, outcome{e: api.ErrFull}, false},
	{ofReply("GET"), ok + end + "abc", "d", limits{0, math.MinInt, 9}, outcome{e: api.ErrFull}, false},
	{ofReply("GET"), ok + end + "abc", "", limits{0, math.MinInt, 9}, outcome{e: api.ErrFull}, false},
	{ofReply("GET"), ok + end + "abc", "d", limits{0, math.MinInt + 1, 0}, outcome{e: api.ErrFull}, false},
	{ofReply("GET"), ok + end + "abc", "de", limits{0, math.MaxInt, math.MaxInt}, data("de", 2, api.Reader{Size: 5}), false},
	{ofReply("GET"), ok + end, "de", limits{0, math.MaxInt, math.MaxInt}, data("de", 2, api.Reader{Size: 2}), false},
	{ofReply("GET"), ok + end, "a", limits{0, 0, 9}, outcome{e: api.ErrFull}, false},
	{ofReply("GET"), ok + end, "", limits{0, 0, 9}, data("", 0, api.Reader{}), false},
	{ofReply("GET"), ok + end, "a", limits{0, -1, 9}, data("", 0, api.Reader{}), false},
	{ofReply("GET"), ok + end, "a", limits{0, -2, 9}, outcome{e: api.ErrFull}, false},
}

// data returns the outcome of body bytes, or of none, with what changes in the reader.
func data(s string, n int, r api.Reader) outcome {
	if s == "" {
		return outcome{reader: r, n: n}
	}
	return outcome{reader: r, part: api.Part{Kind: api.PartData, Data: []byte(s)}, n: n}
}

func TestBodies(t *testing.T) {
	for _, x := range bodies {
		p, r := after(t, x.p, x.before)
		want := x.want
		if want.e == api.OK {
			want.reader.Reply, want.reader.Method, want.reader.Request, want.reader.Answer, want.reader.Frame = r.Reply, r.Method, r.Request, r.Answer, r.Frame
			want.reader.Phase = api.ReadBody
			if x.ended {
				want.reader.Phase = api.ReadDone
			}
		}
		if got := call(r, []byte(x.b), x.l); !sameOutcome(got, want) {
			t.Errorf("behind %q: Next(%q, %+v) = %+v, want %+v", x.before, x.b, x.l, got, want)
		}
		check(t, p, r, x.b, x.l)
	}
}

// Each state in the messages, each piece that is there then, and rooms and
// limits of bodies around the sizes.
func TestAllPieces(t *testing.T) {
	for _, x := range wholes {
		p, r := x.p, begin(x.p)
		for at := 0; ; {
			for to := at; to <= len(x.s); to++ {
				for _, room := range []int{-1, 0, 1, 2, 3, 5, math.MaxInt} {
					for _, body := range []int{-2, -1, 0, 1, 2, 4, 6, math.MaxInt} {
						check(t, p, r, x.s[at:to], limits{100, body, room})
					}
				}
			}
			if p.done || at == len(x.s) {
				break
			}
			// One byte more of a body, or the head.
			to := at + 1
			if !p.begun {
				to = len(x.s)
			}
			var got outcome
			p, got = check(t, p, r, x.s[at:to], limits{100, 9, 1})
			if got.part.Kind == api.PartNone && got.n == 0 {
				break
			}
			r, at = got.reader, at+got.n
		}
	}
}

// Bodies around the limit, with each frame and each room: a body that is as long
// as it may be is read, and one byte more is refused.
func TestBodyLimit(t *testing.T) {
	for n := range 12 {
		text := strings.Repeat("abc", 4)[:n]
		coded := last
		if n > 0 {
			coded = fmt.Sprintf("%x\r\n%s\r\n%s", n, text, last)
		}
		single := ""
		for i := range n {
			single += "1\r\n" + text[i:i+1] + end
		}
		for _, x := range []struct {
			p past
			s string
		}{
			{ofRequest(), post + cl(n) + end + text},
			{ofRequest(), post + te + end + coded},
			{ofRequest(), post + te + end + single + last},
			{ofReply("GET"), ok + cl(n) + end + text},
			{ofReply("GET"), ok + te + end + coded},
			{ofReply("GET"), ok + end + text},
		} {
			for room := 1; room < 14; room++ {
				for _, size := range []int{1, 3, len(x.s)} {
					got := checked(t, x.p, x.s, 100, 6, always(size, room))
					if n <= 6 && (got.e != api.OK || got.body != text || got.n != len(x.s)) || n > 6 && got.e != api.ErrFull {
						t.Fatalf("a body of %d bytes in pieces of %d, %d: %+v", n, size, room, got)
					}
				}
			}
		}
	}
}

// Each byte there is, in each state of a few messages.
func TestEveryByte(t *testing.T) {
	all := allBytes()
	for _, x := range []struct {
		p past
		s string
	}{
		{ofRequest(), post + te + end + "2;a\r\nab\r\n0\r\nA: b\r\n\r\n"},
		{ofRequest(), post + cl(2) + end + "ab"},
		{ofReply("GET"), ok + end + "ab"},
	} {
		first := strings.Index(x.s, headEnd) + len(headEnd)
		for at := first; at <= len(x.s); at++ {
			p, r := after(t, x.p, x.s[:at])
			for i := range all {
				check(t, p, r, all[i:i+1], limits{100, 6, 1})
			}
		}
	}
}

// All short texts of the bytes that matter, behind heads and beginnings of bodies.
func TestWords(t *testing.T) {
	for _, x := range []struct {
		p      past
		before string
	}{
		{ofRequest(), post + te + end}, {ofRequest(), post + te + end + "1\r\nx"}, {ofRequest(), post + te + end + "0\r\na:"},
		{ofRequest(), post + cl(2) + end}, {ofRequest(), post + end}, {ofReply("GET"), ok + end},
	} {
		p, r := after(t, x.p, x.before)
		for _, s := range words("\r\n01;a", 4) {
			for _, l := range []limits{{9, 9, 9}, {9, 1, 9}, {9, 2, 1}, {9, 0, 0}} {
				check(t, p, r, s, l)
			}
		}
	}
}

// Behind the end nothing is consumed, whatever is there.
func TestDone(t *testing.T) {
	for _, x := range wholes {
		if !x.ends || x.kinds[len(x.kinds)-1] != api.PartEnd {
			continue
		}
		p, r := after(t, x.p, x.s[:x.n])
		for !p.done {
			var got outcome
			p, got = check(t, p, r, "", limits{9, 9, 9})
			r = got.reader
		}
		for _, b := range append(words("\r\n0a", 2), x.s, allBytes()) {
			for _, n := range []int{math.MinInt, -1, 0, 1, 1000, math.MaxInt} {
				got := call(r, []byte(b), limits{n, n, n})
				if !sameOutcome(got, outcome{reader: r}) {
					t.Fatalf("behind the end, Next(%q, %d) = %+v", b, n, got)
				}
				check(t, p, r, b, limits{n, n, n})
			}
		}
	}
}

// P11.4

func TestFinish(t *testing.T) {
	for _, x := range []struct {
		p    past
		s    string
		want bool
	}{
		{ofRequest(), "", false},
		{ofRequest(), post + end, false},
		{ofRequest(), post + cl(0) + end, false},
		{ofRequest(), post + cl(2) + end + "ab", false},
		{ofRequest(), post + te + end + "1\r\na\r\n" + last, false},
		{ofRequest(), post + te + end + "1\r\na\r\n0\r\n", false},
		{ofRequest(), post + te + end + last, true},
		{ofReply("GET"), "", false},
		{ofReply("GET"), "HTTP/1.1 100 Go" + headEnd, false},
		{ofReply("GET"), ok + end, true},
		{ofReply("GET"), ok + end + "ab", true},
		{ofReply("HEAD"), ok + end, false},
		{ofReply("GET"), ok + cl(2) + end + "a", false},
		{ofReply("GET"), "HTTP/1.1 204 No" + headEnd, false},
	} {
		_, r := after(t, x.p, x.s)
		before := cloned(r)
		if got := reader.Finish(r); got != x.want || !sameReader(r, before) {
			t.Errorf("Finish behind %q = %v, %+v", x.s, got, r)
		}
	}
	for _, x := range wholes {
		got := plain(x.p, x.s, 100, 6, always(len(x.s), 9))
		if reader.Finish(got.reader) != x.ends {
			t.Errorf("Finish behind %q = %v", x.s, !x.ends)
		}
	}
}

// P11.5

func TestMessages(t *testing.T) {
	for _, x := range wholes {
		want := checked(t, x.p, x.s, 100, 6, always(len(x.s)+1, math.MaxInt))
		if want.e != api.OK || want.body != x.body || want.n != x.n || !slices.Equal(want.kinds, x.kinds) || want.reader.Size != len(x.body) {
			t.Errorf("%q is read as %+v, want %+v", x.s, want, x)
		}
		for size := 1; size <= len(x.s); size++ {
			for _, room := range []int{1, 2, 3, 4, 9} {
				if got := checked(t, x.p, x.s, 100, 6, always(size, room)); !sameResult(got, want) {
					t.Fatalf("%q in pieces of %d, %d is read as %+v, want %+v", x.s, size, room, got, want)
				}
				if got := checked(t, x.p, x.s, 100, 6, halves(size, room)); !sameResult(got, want) {
					t.Fatalf("%q cut at %d, %d is read as %+v, want %+v", x.s, size, room, got, want)
				}
			}
		}
	}
}

func TestRefusedMessages(t *testing.T) {
	for _, x := range refused {
		for size := 1; size <= len(x.s); size++ {
			for _, room := range []int{1, 2, 3, 9} {
				for _, cut := range []func() (int, int){always(size, room), halves(size, room)} {
					if got := checked(t, x.p, x.s, 100, 6, cut); got.e != x.e {
						t.Fatalf("%q in pieces of %d, %d is read as %+v, want %d", x.s, size, room, got, x.e)
					}
				}
			}
		}
	}
}

// known is a message that was put together, and its parts.
type known struct {
	p        past
	s, body  string
	interims int
	request  api.Request
	answer   api.Reply
	frame    api.Frame
}

// put puts the body of x behind it in a frame, and returns the fields that say so.
func (x *known) put(r *rand.Rand, bodiless bool) (fields []api.Field, coded string) {
	kinds := []int{api.FrameNone, api.FrameLength, api.FrameChunked}
	if x.p.start.Reply {
		kinds = []int{api.FrameClose, api.FrameLength, api.FrameChunked}
	}
	x.body = random(r, allBytes(), pick(r, 0, 1, 5, 40))
	x.frame.Kind = pick(r, kinds...)
	switch x.frame.Kind {
	case api.FrameNone:
		x.body = ""
	case api.FrameLength:
		x.frame.Length = len(x.body)
		fields, coded = of(pick(r, "Content-Length", "content-LENGTH"), fmt.Sprintf("%0*d", r.Intn(4), len(x.body))), x.body
	case api.FrameChunked:
		fields, coded = of("Transfer-Encoding", pick(r, "chunked", "CHUNKED", ", chunked ,,")), chunks(r, x.body)
	case api.FrameClose:
		coded = x.body
	}
	if bodiless {
		x.frame, x.body, coded = api.Frame{Kind: api.FrameNone}, "", ""
	}
	return fields, coded
}

// chunks returns a chunked body that says the same as body.
func chunks(r *rand.Rand, body string) string {
	s := ""
	for body != "" {
		n := 1 + r.Intn(len(body))
		s += fmt.Sprintf("%s%x%s\r\n%s\r\n", strings.Repeat("0", r.Intn(3)), n, pick(r, "", "", ";", ";a=b "), body[:n])
		body = body[n:]
	}
	return s + pick(r, "0", "000", "0;x") + end + pick(r, "", "", "A: b\r\n", "A:\r\nContent-Length: 5\r\n") + end
}

// randomKnown returns an arbitrary message.
func randomKnown(r *rand.Rand) known {
	x := known{p: pick(r, ofRequest(), ofRequest(), ofReply("GET"), ofReply("HEAD"), ofReply("POST"))}
	status := pick(r, 200, 200, 204, 304, 404, 500, 599)
	framing, coded := x.put(r, x.p.start.Reply && (x.p.start.Method == "HEAD" || status == 204 || status == 304))
	fields := append(of("Host", pick(r, "", "a", "b:80")), framing...)
	for range r.Intn(4) {
		fields = append(fields, of(pick(r, "A", "x-y", "Contents-Length", "TE"), pick(r, "", "b", "c, \xff d", "chunked", "5"))...)
	}
	r.Shuffle(len(fields), func(i, k int) { fields[i], fields[k] = fields[k], fields[i] })
	lines := ""
	for _, f := range fields {
		lines += f.Name + ":" + pick(r, "", " ", "\t ") + f.Value + pick(r, "", " ") + end
	}
	if !x.p.start.Reply {
		x.request = api.Request{Method: pick(r, "GET", "POST", "HEAD", "x"), Target: pick(r, "/", "/a?b"), Minor: 1, Fields: fields, Framed: x.frame.Kind != api.FrameNone}
		x.s = x.request.Method + " " + x.request.Target + " HTTP/1.1\r\n" + lines + end + coded
		return x
	}
	x.answer = api.Reply{Status: status, Reason: pick(r, "", "OK", " a b "), Minor: 1, Fields: fields}
	for x.interims = r.Intn(3); strings.Count(x.s, headEnd) < x.interims; {
		x.s += "HTTP/1.1 " + pick(r, "100", "102", "199 a") + end + pick(r, "", "A: b\r\n", cl(5)) + end
	}
	x.s += fmt.Sprintf("HTTP/1.1 %d %s\r\n%s\r\n%s", status, x.answer.Reason, lines, coded)
	return x
}

// want returns what there is to see when x is read.
func (x known) want() result {
	kinds := append(slices.Repeat([]int{api.PartInterim}, x.interims), api.PartHead)
	r := api.Reader{Reply: x.p.start.Reply, Method: x.p.start.Method, Phase: api.ReadBody, Request: x.request, Answer: x.answer, Frame: x.frame, Size: len(x.body)}
	if x.frame.Kind != api.FrameClose {
		r.Phase = api.ReadDone
		kinds = append(kinds, api.PartEnd)
	}
	return result{reader: r, kinds: kinds, body: x.body, n: len(x.s)}
}

func TestArbitraryMessages(t *testing.T) {
	r := rand.New(rand.NewSource(2))
	for range 4000 {
		x := randomKnown(r)
		s := x.s
		if x.frame.Kind != api.FrameClose {
			s += random(r, allBytes(), 20)
		}
		body := pick(r, len(x.body), len(x.body)+r.Intn(3), api.MaxLength, math.MaxInt)
		sizes, rooms := pick(r, 1, 3, 20, 300), pick(r, 1, 3, 20, 300)
		got := checked(t, x.p, s, pick(r, 400, math.MaxInt), body, func() (int, int) {
			return r.Intn(sizes + 1), pick(r, -1, 0, 1, 1+r.Intn(rooms), math.MaxInt)
		})
		want := x.want()
		want.reader.Chunk = got.reader.Chunk
		if !sameResult(got, want) {
			t.Fatalf("%q is read as %+v, want %+v", s, got, want)
		}
		if chunked := x.frame.Kind == api.FrameChunked; chunked != (got.reader.Chunk.Phase == api.ChunkDone) || !chunked && !sameChunk(got.reader.Chunk, api.Chunk{}) {
			t.Fatalf("%q is read as %+v", s, got)
		}
		// A byte less than the body has is refused.
		if x.body != "" {
			got = checked(t, x.p, s, math.MaxInt, r.Intn(len(x.body)), func() (int, int) { return r.Intn(sizes + 1), 1 + r.Intn(rooms) })
			if got.e != api.ErrFull {
				t.Fatalf("%q, which is too long, is read as %+v", s, got)
			}
		}
	}
}

// Messages that lie behind each other are found again, each in its pieces.
func TestMessagesInOrder(t *testing.T) {
	r := rand.New(rand.NewSource(3))
	for range 300 {
		s, l := "", []known{}
		for len(l) < 6 {
			if x := randomKnown(r); x.frame.Kind != api.FrameClose {
				s, l = s+x.s, append(l, x)
			}
		}
		for _, x := range l {
			size, room := 1+r.Intn(50), 1+r.Intn(50)
			got, want := plain(x.p, s, 400, 40, always(size, room)), x.want()
			want.reader.Chunk = got.reader.Chunk
			if !sameResult(got, want) {
				t.Fatalf("the message %q in %q is read as %+v", x.s, s, got)
			}
			s = s[got.n:]
		}
	}
}

// broken returns s with a few arbitrary changes.
func broken(r *rand.Rand, s string) string {
	for range 1 + r.Intn(3) {
		at := r.Intn(len(s) + 1)
		to := at + r.Intn(min(4, len(s)-at)+1)
		s = s[:at] + pick(r, "", "", "\r", "\n", end, headEnd, "0", "f", ";", ":", " ", "\x00", random(r, allBytes(), 3)) + s[to:]
	}
	return s
}

// Broken messages are read alike in all pieces, with the same error, if their
// bodies are not too long.
func TestBrokenMessages(t *testing.T) {
	r := rand.New(rand.NewSource(4))
	found := map[api.Errno]int{}
	for range 5000 {
		x := randomKnown(r)
		s := pick(r, broken(r, x.s), x.s[:r.Intn(len(x.s)+1)], random(r, allBytes(), 60), random(r, "\r\n", 9)+x.s, strings.Replace(x.s, end, end+pick(r, cl(5), te), 1))
		most := pick(r, r.Intn(400), 400)
		want := checked(t, x.p, s, most, math.MaxInt, always(len(s), math.MaxInt))
		found[want.e]++
		for range 2 {
			sizes, rooms := pick(r, 1, 3, 20, 300), pick(r, 1, 3, 20, 300)
			got := checked(t, x.p, s, most, math.MaxInt, func() (int, int) { return r.Intn(sizes + 1), 1 + r.Intn(rooms) })
			if !sameResult(got, want) {
				t.Fatalf("%q, %d is read as %+v, and at once as %+v", s, most, got, want)
			}
		}
		// With arbitrary limits, which change from call to call, each call is as it should be.
		read(x.p, s, func() (int, int) { return 1 + r.Intn(30), 1 + r.Intn(9) }, func(p past, rd api.Reader, b string, room int) (past, outcome) {
			return check(t, p, rd, b, limits{pick(r, most, 400, 400, randomNumber(r)), pick(r, r.Intn(60), 400, 400, randomNumber(r)), room})
		})
	}
	for _, e := range []api.Errno{api.OK, api.ErrSyntax, api.ErrLimit, api.ErrFraming} {
		if found[e] < 100 {
			t.Errorf("the error %d is returned only %d times", e, found[e])
		}
	}
}

// Great bodies are read as small ones are.
func TestGreat(t *testing.T) {
	text := strings.Repeat("0123456789abcde\n", 1<<16)
	for _, x := range []struct {
		p     past
		s     string
		kinds []int
	}{
		{ofRequest(), post + cl(len(text)) + end + text, headAndEnd},
		{ofRequest(), fmt.Sprintf("%s%s\r\n%x\r\n%s\r\n%s", post, te, len(text), text, last), headAndEnd},
		{ofRequest(), post + te + end + strings.Repeat("10\r\n0123456789abcde\n\r\n", 1<<16) + last, headAndEnd},
		{ofReply("GET"), ok + end + text, headOnly},
	} {
		for _, cut := range []func() (int, int){always(len(x.s), math.MaxInt), always(4096, 1000), always(65536, 70000)} {
			got := plain(x.p, x.s, 100, len(text), cut)
			if got.body != text || got.n != len(x.s) || !slices.Equal(got.kinds, x.kinds) || got.reader.Size != len(text) || got.e != api.OK {
				t.Errorf("a great body is read as %d bytes, %d, %v, %d", len(got.body), got.n, got.kinds, got.e)
			}
			if x.kinds[len(x.kinds)-1] == api.PartHead || strings.Contains(x.s, te) {
				if got := plain(x.p, x.s, 100, len(text)-1, cut); got.e != api.ErrFull {
					t.Errorf("a body that is too great is read, %d", got.e)
				}
			}
		}
	}
	// A head without end is refused as soon as it is too long.
	if got := call(reader.ForRequest(), []byte(strings.Repeat("a", 1<<20)), limits{1 << 20, 9, 9}); got.e != api.ErrLimit {
		t.Errorf("a head without end is read as %+v", got)
	}
}

// The general rules.

// wild returns an arbitrary reader, which Next does not return.
func wild(r *rand.Rand) api.Reader {
	number := func() int { return pick(r, r.Intn(8), randomNumber(r)) }
	return api.Reader{
		Reply: r.Intn(2) == 0, Method: pick(r, "", "GET", "HEAD"), Phase: pick(r, 0, 1, 1, 1, 2, number()),
		Request: api.Request{Method: random(r, allBytes(), 3), Minor: number(), Fields: of("A", "b", random(r, allBytes(), 3), "\n"), Framed: r.Intn(2) == 0, Body: []byte(random(r, allBytes(), 3))},
		Answer:  api.Reply{Status: number(), Fields: of("", ""), Body: []byte(random(r, allBytes(), 3))},
		Frame:   api.Frame{Kind: pick(r, 1, 2, 3, 4, number()), Length: number()},
		Left:    number(), Size: number(),
		Chunk: api.Chunk{Phase: number(), Left: number(), Trailer: number(), Line: []byte(random(r, "\r\n0a:", 5))},
	}
}

// R1 to R3: other readers have no meaning, but Next and Finish end for them, and change nothing.
func TestOtherReaders(t *testing.T) {
	r := rand.New(rand.NewSource(5))
	for range 50000 {
		x := wild(r)
		b, array := spare(pick(r, "", random(r, allBytes(), 20), random(r, "\r\n0a:;", 20), post+cl(3)+end+"abc", ok+end, last))
		l := limits{pick(r, 100, randomNumber(r)), randomNumber(r), randomNumber(r)}
		before, bytesBefore := cloned(x), bytes.Clone(array)
		got, finish := call(x, b, l), reader.Finish(x)
		if again := call(x, b, l); !sameOutcome(got, again) || finish != reader.Finish(x) {
			t.Fatalf("Next(%+v, %q, %+v) = %+v, and then %+v", x, b, l, got, again)
		}
		if !sameReader(x, before) || !bytes.Equal(array, bytesBefore) {
			t.Fatalf("Next(%+v, %q, %+v) changes its arguments to %+v, %q", before, b, l, x, array)
		}
		if got.n < 0 || got.n > len(b) || len(got.part.Data) > len(b) || got.e != api.OK && !sameOutcome(got, outcome{e: got.e}) {
			t.Fatalf("Next(%+v, %q, %+v) = %+v", x, b, l, got)
		}
	}
}

// overwrite changes everything in r and part that lies in memory which others could share.
func overwrite(r api.Reader, part api.Part) {
	for _, fields := range [][]api.Field{r.Request.Fields, r.Answer.Fields} {
		fields = fields[:cap(fields)]
		for i := range fields {
			fields[i] = api.Field{Name: "overwritten", Value: "overwritten"}
		}
	}
	for _, b := range [][]byte{r.Request.Body, r.Answer.Body, r.Chunk.Line, part.Data} {
		b = b[:cap(b)]
		for i := range b {
			b[i] ^= 0x55
		}
	}
}

// R2: results stay as they are when the arguments or other results are
// overwritten, and the arguments stay when the results are.
func TestNextSharesNothing(t *testing.T) {
	for _, x := range wholes {
		for at := 0; at <= x.n; at++ {
			p, r, ready := reach(t, x.p, x.s[:at])
			if !ready {
				continue
			}
			for _, l := range []limits{{100, 9, 0}, {100, 9, 1}, {100, 9, 9}} {
				_, want := p.next(x.s[at:], l)
				kept := cloned(r)
				b, array := spare(x.s[at:])
				whole := bytes.Clone(array)
				got, other := call(r, b, l), call(r, b, l)
				overwrite(other.reader, other.part)
				if !sameOutcome(got, want) || !sameReader(r, kept) || !bytes.Equal(array, whole) {
					t.Fatalf("behind %q the results of Next share memory with each other or with the arguments", x.s[:at])
				}
				argument := cloned(r)
				got = call(argument, b, l)
				overwrite(argument, api.Part{Data: array})
				if !sameOutcome(got, want) {
					t.Fatalf("behind %q the results of Next share memory with the arguments", x.s[:at])
				}
				overwrite(api.Reader{}, got.part)
				if !sameReader(got.reader, want.reader) {
					t.Fatalf("behind %q the results of Next share memory with each other", x.s[:at])
				}
			}
		}
	}
}

// R2 holds for readers with bodies in their messages, which Next does not return.
func TestNextSharesNoBodies(t *testing.T) {
	for phase := range 4 {
		r := api.Reader{Phase: phase, Frame: api.Frame{Kind: api.FrameClose}, Request: api.Request{Fields: of("A", "b"), Body: []byte("request")}, Answer: api.Reply{Fields: of("C", "d"), Body: []byte("answer")}, Chunk: api.Chunk{Line: []byte("line")}}
		kept := cloned(r)
		for _, s := range []string{"", "a"} {
			got := call(r, []byte(s), limits{9, 9, 9})
			overwrite(got.reader, got.part)
			if !sameReader(r, kept) {
				t.Fatalf("in the phase %d the reader after Next(%q) shares memory with the one before", phase, s)
			}
		}
	}
}

// reach returns the reader that has consumed all of s, if there is one.
func reach(t *testing.T, p past, s string) (past, api.Reader, bool) {
	t.Helper()
	r, at := begin(p), 0
	for at < len(s) {
		var got outcome
		if p, got = check(t, p, r, s[at:], limits{100, 9, 9}); got.n == 0 {
			return p, r, false
		}
		r, at = got.reader, at+got.n
	}
	return p, r, true
}
