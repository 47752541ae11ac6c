package reader_test

import (
	"bytes"
	"math/big"
	"regexp"
	"slices"
	"strconv"
	"strings"
	"testing"

	"canary/api"
	"canary/reader"
)

// The oracle says what Next returns by what was consumed before and what is
// offered. It looks at the whole text from its start, with regular expressions,
// and calls no other layer.

const (
	end     = "\r\n"
	headEnd = "\r\n\r\n"
)

// These speak of runes, one for each byte (see wide).
var (
	requestForm = regexp.MustCompile("^([-A-Za-z0-9!#$%&'*+.^_`|~]+) (/[!\"$-~]*) HTTP/([0-9]\\.[0-9])((?:\r\n[^\r\n]+)*)\r\n\r\n$")
	statusForm  = regexp.MustCompile(`^HTTP/1\.([01]) ([1-5][0-9][0-9])(?: ([\t -~\x{80}-\x{ff}]*))?((?:\r\n[^\r\n]+)*)\r\n\r\n$`)
	fieldForm   = regexp.MustCompile("^([-A-Za-z0-9!#$%&'*+.^_`|~]+):[ \t]*([\t -~\\x{80}-\\x{ff}]*?)[ \t]*$")
	codingForm  = regexp.MustCompile(`^[ \t,]*(?i:chunked)[ \t,]*$`)
	digitsForm  = regexp.MustCompile(`^[0-9]+$`)

	lineForm  = regexp.MustCompile(`^([^\r\n]{0,128})\r\n`)
	beginForm = regexp.MustCompile(`^[^\r\n]{0,128}\r?$`)
	longForm  = regexp.MustCompile(`^[^\r\n]{129}`)
	sizeForm  = regexp.MustCompile(`^([0-9A-Fa-f]+)(;[\t -~\x{80}-\x{ff}]*)?$`)
)

// limits are the numbers that Next is given.
type limits struct{ most, body, room int }

// message is what a head says.
type message struct {
	request api.Request
	answer  api.Reply
	frame   api.Frame
}

// past is what a reader has consumed: a head, if it is complete, and the bytes behind it.
type past struct {
	start       api.Reader
	begun, done bool
	message     message
	coded       string
}

// outcome is what a call of Next returns.
type outcome struct {
	reader api.Reader
	part   api.Part
	n      int
	e      api.Errno
}

// wide returns a string with a rune for each byte of s, so that the expressions speak of bytes.
func wide(s string) string {
	runes := make([]rune, len(s))
	for i := range len(s) {
		runes[i] = rune(s[i])
	}
	return string(runes)
}

func narrow(s string) string {
	var b []byte
	for _, r := range s {
		b = append(b, byte(r))
	}
	return string(b)
}

// first returns the first n runes of s, or all if it has fewer, and those behind them.
func first(s string, n int) (string, string) {
	for i := range s {
		if n == 0 {
			return s[:i], s[i:]
		}
		n--
	}
	return s, ""
}

// The heads.

func wantFields(s string) ([]api.Field, api.Errno) {
	lines := strings.Split(s, end)[1:]
	if len(lines) > 64 {
		return nil, api.ErrLimit
	}
	var fields []api.Field
	for _, line := range lines {
		m := fieldForm.FindStringSubmatch(line)
		if m == nil {
			return nil, api.ErrSyntax
		}
		fields = append(fields, api.Field{Name: narrow(m[1]), Value: narrow(m[2])})
	}
	return fields, api.OK
}

// valuesOf returns the values of the fields of a name, which is a token in all of them.
func valuesOf(fields []api.Field, name string) []string {
	var values []string
	for _, f := range fields {
		if strings.EqualFold(f.Name, name) {
			values = append(values, f.Value)
		}
	}
	return values
}

func wantRequest(s string) (api.Request, api.Errno) {
	m := requestForm.FindStringSubmatch(wide(s))
	if m == nil {
		return api.Request{}, api.ErrSyntax
	}
	if m[3] != "1.0" && m[3] != "1.1" {
		return api.Request{}, api.ErrUnknown
	}
	fields, e := wantFields(m[4])
	minor := int(m[3][2] - '0')
	if hosts := len(valuesOf(fields, "Host")); e == api.OK && (hosts > 1 || hosts < minor) {
		e = api.ErrSyntax
	}
	return api.Request{Method: narrow(m[1]), Target: narrow(m[2]), Minor: minor, Fields: fields}, e
}

func wantReply(s string) (api.Reply, api.Errno) {
	m := statusForm.FindStringSubmatch(wide(s))
	if m == nil {
		return api.Reply{}, api.ErrSyntax
	}
	fields, e := wantFields(m[4])
	status, _ := strconv.Atoi(m[2])
	return api.Reply{Status: status, Reason: narrow(m[3]), Minor: int(m[1][0] - '0'), Fields: fields}, e
}

func wantFrame(minor int, fields []api.Field, otherwise int) (api.Frame, api.Errno) {
	lengths, codings := valuesOf(fields, "Content-Length"), valuesOf(fields, "Transfer-Encoding")
	switch {
	case len(codings) > 0 && minor != 0 && len(lengths) == 0 && codingForm.MatchString(wide(strings.Join(codings, ","))):
		return api.Frame{Kind: api.FrameChunked}, api.OK
	case len(codings) > 0 || len(lengths) > 1 || len(lengths) == 1 && !digitsForm.MatchString(lengths[0]):
		return api.Frame{}, api.ErrFraming
	case len(lengths) == 0:
		return api.Frame{Kind: otherwise}, api.OK
	}
	n, _ := new(big.Int).SetString(lengths[0], 10)
	if n.Cmp(big.NewInt(1000000000)) > 0 {
		return api.Frame{}, api.ErrFull
	}
	return api.Frame{Kind: api.FrameLength, Length: int(n.Int64())}, api.OK
}

// wantMessage returns what a whole head says, or that it is that of an interim reply.
func wantMessage(start api.Reader, s string) (m message, interim bool, e api.Errno) {
	if !start.Reply {
		if m.request, e = wantRequest(s); e == api.OK {
			m.frame, e = wantFrame(m.request.Minor, m.request.Fields, api.FrameNone)
		}
		m.request.Framed = m.frame.Kind == api.FrameLength || m.frame.Kind == api.FrameChunked
		return m, false, e
	}
	if m.answer, e = wantReply(s); e != api.OK {
		return m, false, e
	}
	switch status := m.answer.Status; {
	case status == 101:
		return m, false, api.ErrSyntax
	case status < 200:
		return m, true, api.OK
	case status == 204 || status == 304 || start.Method == "HEAD":
		m.frame.Kind = api.FrameNone
	default:
		m.frame, e = wantFrame(m.answer.Minor, m.answer.Fields, api.FrameClose)
	}
	return m, false, e
}

// The chunked coding.

// view is what there is to see after some bytes of a chunked body.
type view struct {
	chunk api.Chunk
	body  string
	e     api.Errno
}

func seen(c api.Chunk, line, body string) view {
	c.Line = []byte(narrow(line))
	return view{chunk: c, body: body}
}

// lookLine returns the line with which s begins, what is behind it, and whether it is complete.
func lookLine(s string) (line, rest string, complete bool, e api.Errno) {
	switch m := lineForm.FindStringSubmatch(s); {
	case m != nil:
		return m[1], s[len(m[0]):], true, api.OK
	case beginForm.MatchString(s):
		return "", s, false, api.OK
	case longForm.MatchString(s):
		return "", s, false, api.ErrLimit
	}
	return "", s, false, api.ErrSyntax
}

// look returns what there is to see after all of s, or after the body with which s begins.
func look(s string) view {
	rest, body := wide(s), ""
	for {
		line, behind, complete, e := lookLine(rest)
		m := sizeForm.FindStringSubmatch(line)
		switch {
		case e != api.OK:
			return view{e: e}
		case !complete:
			return seen(api.Chunk{}, rest, body)
		case m == nil:
			return view{e: api.ErrSyntax}
		}
		size, _ := new(big.Int).SetString(m[1], 16)
		if size.Cmp(big.NewInt(1000000000)) > 0 {
			return view{e: api.ErrLimit}
		}
		if size.Sign() == 0 {
			return lookTrailer(body, behind)
		}
		data, behind := first(behind, int(size.Int64()))
		body += narrow(data)
		if left := int(size.Int64()) - len(narrow(data)); left > 0 {
			return seen(api.Chunk{Phase: api.ChunkData, Left: left}, "", body)
		}
		line, rest, complete, e = lookLine(behind)
		switch {
		case e != api.OK:
			return view{e: e}
		case !complete:
			return seen(api.Chunk{Phase: api.ChunkEnd}, rest, body)
		case line != "":
			return view{e: api.ErrSyntax}
		}
	}
}

// lookTrailer goes on with look in the trailer section.
func lookTrailer(body, trailer string) view {
	rest, tooMany := first(trailer, 1024)
	size := len(narrow(rest))
	for {
		line, behind, complete, e := lookLine(rest)
		switch {
		case e != api.OK:
			return view{e: e}
		case !complete && tooMany != "":
			return view{e: api.ErrLimit}
		case !complete:
			return seen(api.Chunk{Phase: api.ChunkTrailer, Trailer: size}, rest, body)
		case line == "":
			return seen(api.Chunk{Phase: api.ChunkDone, Trailer: size - len(narrow(behind))}, "", body)
		case !fieldForm.MatchString(line):
			return view{e: api.ErrSyntax}
		}
		rest = behind
	}
}

// The readers.

// reader returns the reader that has consumed p.
func (p past) reader() api.Reader {
	r := p.start
	if !p.begun {
		return r
	}
	r.Phase = api.ReadBody
	if p.done {
		r.Phase = api.ReadDone
	}
	r.Request, r.Answer, r.Frame = p.message.request, p.message.answer, p.message.frame
	r.Size = len(p.coded)
	switch r.Frame.Kind {
	case api.FrameLength:
		r.Left = r.Frame.Length - r.Size
	case api.FrameChunked:
		v := look(p.coded)
		r.Chunk, r.Size = v.chunk, len(v.body)
	}
	return r
}

// finishes reports whether the end of the connection ends the message.
func (p past) finishes() bool {
	return p.done || p.begun && p.message.frame.Kind == api.FrameClose
}

// next returns what a reader has consumed after it was offered b, and what Next returns then.
func (p past) next(b string, l limits) (past, outcome) {
	switch {
	case p.done:
		return p.move("", "", 0)
	case !p.begun:
		return p.nextHead(b, l)
	}
	switch p.message.frame.Kind {
	case api.FrameChunked:
		return p.nextChunks(b, l)
	case api.FrameClose:
		return p.nextToClose(b, l)
	}
	if len(p.coded) == p.message.frame.Length {
		p.done = true
		return p.move("", "", api.PartEnd)
	}
	k := 0
	for k < len(b) && k < l.room && len(p.coded)+k < p.message.frame.Length {
		k++
	}
	return p.move(b[:k], b[:k], api.PartNone)
}

func (p past) nextHead(b string, l limits) (past, outcome) {
	n := strings.Index(b, headEnd) + len(headEnd)
	switch {
	case n >= len(headEnd) && n <= l.most:
	case len(b) >= l.most:
		return p.fail(api.ErrLimit)
	default:
		return p.move("", "", api.PartNone)
	}
	m, interim, e := wantMessage(p.start, b[:n])
	switch {
	case e != api.OK:
		return p.fail(e)
	case interim:
		return p, outcome{reader: p.start, part: api.Part{Kind: api.PartInterim}, n: n}
	case m.frame.Kind == api.FrameLength && m.frame.Length > l.body:
		return p.fail(api.ErrFull)
	}
	p.begun, p.message = true, m
	return p, outcome{reader: p.reader(), part: api.Part{Kind: api.PartHead}, n: n}
}

func (p past) nextChunks(b string, l limits) (past, outcome) {
	size := len(look(p.coded).body)
	for n := 0; ; n++ {
		v := look(p.coded + b[:n])
		if v.e != api.OK {
			return p.fail(v.e)
		}
		data, ended := v.body[size:], v.chunk.Phase == api.ChunkDone
		full := v.chunk.Phase == api.ChunkData && (len(data) >= l.room || len(v.body) > l.body)
		switch {
		case !full && !ended && n < len(b):
			continue
		case len(v.body) > l.body:
			return p.fail(api.ErrFull)
		case data == "" && ended:
			p.done = true
			return p.move(b[:n], "", api.PartEnd)
		}
		return p.move(b[:n], data, api.PartNone)
	}
}

func (p past) nextToClose(b string, l limits) (past, outcome) {
	size, k := len(p.coded), 0
	for k < len(b) && k < l.room && size+k <= l.body {
		k++
	}
	// By P11.3 a k below 0 is above body as well, and a k of 0 never is.
	if k > 0 && size+k > l.body || size-1 > l.body {
		return p.fail(api.ErrFull)
	}
	return p.move(b[:k], b[:k], api.PartNone)
}

// move consumes more bytes; the part is data if there are any, and otherwise has this kind.
func (p past) move(more, data string, kind int) (past, outcome) {
	p.coded += more
	part := api.Part{Kind: kind}
	if data != "" {
		part = api.Part{Kind: api.PartData, Data: []byte(data)}
	}
	return p, outcome{reader: p.reader(), part: part, n: len(more)}
}

func (p past) fail(e api.Errno) (past, outcome) { return p, outcome{e: e} }

// The comparisons.

func sameReader(a, b api.Reader) bool {
	return a.Reply == b.Reply && a.Method == b.Method && a.Phase == b.Phase &&
		sameRequest(a.Request, b.Request) && sameReply(a.Answer, b.Answer) &&
		a.Frame == b.Frame && a.Left == b.Left && a.Size == b.Size && sameChunk(a.Chunk, b.Chunk)
}

func sameRequest(a, b api.Request) bool {
	return a.Method == b.Method && a.Target == b.Target && a.Minor == b.Minor && a.Framed == b.Framed &&
		slices.Equal(a.Fields, b.Fields) && bytes.Equal(a.Body, b.Body)
}

func sameReply(a, b api.Reply) bool {
	return a.Status == b.Status && a.Reason == b.Reason && a.Minor == b.Minor &&
		slices.Equal(a.Fields, b.Fields) && bytes.Equal(a.Body, b.Body)
}

func sameChunk(a, b api.Chunk) bool {
	return a.Phase == b.Phase && a.Left == b.Left && a.Trailer == b.Trailer && bytes.Equal(a.Line, b.Line)
}

func sameOutcome(a, b outcome) bool {
	return sameReader(a.reader, b.reader) && a.part.Kind == b.part.Kind && bytes.Equal(a.part.Data, b.part.Data) && a.n == b.n && a.e == b.e
}

// call returns what Next returns.
func call(r api.Reader, b []byte, l limits) outcome {
	next, part, n, e := reader.Next(r, b, l.most, l.body, l.room)
	return outcome{next, part, n, e}
}

// cloned returns a reader that is equal to r and shares no memory with it.
func cloned(r api.Reader) api.Reader {
	r.Request.Fields, r.Request.Body = slices.Clone(r.Request.Fields), bytes.Clone(r.Request.Body)
	r.Answer.Fields, r.Answer.Body = slices.Clone(r.Answer.Fields), bytes.Clone(r.Answer.Body)
	r.Chunk.Line = bytes.Clone(r.Chunk.Line)
	return r
}

// spare returns the bytes of s in an array that has more bytes, which would
// complete a head or a body, and that array.
func spare(s string) ([]byte, []byte) {
	array := []byte(s + headEnd + "0" + headEnd)
	return array[:len(s)], array
}

// check compares a call of Next for the reader r, which has consumed p, and
// Finish of the reader after it, with the oracle. It calls Next twice, since
// nothing is kept from call to call.
func check(t *testing.T, p past, r api.Reader, s string, l limits) (past, outcome) {
	t.Helper()
	after, want := p.next(s, l)
	b, array := spare(s)
	before, bytesBefore := cloned(r), bytes.Clone(array)
	var got outcome
	for range 2 {
		got = call(r, b, l)
		if !sameOutcome(got, want) {
			t.Fatalf("Next(%+v, %q, %+v) = %+v, want %+v", r, s, l, got, want)
		}
		if !sameReader(r, before) || !bytes.Equal(array, bytesBefore) {
			t.Fatalf("Next(%+v, %q, %+v) changes its arguments to %+v, %q", before, s, l, r, array)
		}
		if want.e == api.OK && reader.Finish(got.reader) != after.finishes() {
			t.Fatalf("Finish(%+v) = %v", got.reader, !after.finishes())
		}
	}
	return after, got
}
