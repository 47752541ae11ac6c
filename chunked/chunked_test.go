package chunked_test

import (
	"bytes"
	"fmt"
	"math"
	"math/big"
	"math/rand"
	"regexp"
	"slices"
	"strings"
	"testing"

	"canary/api"
	"canary/chunked"
)

// Each promise is checked on named cases, on every text that differs from a good
// body in a single byte, on all short texts of the bytes that matter, on all ways
// to divide a body, and on arbitrary bytes, numbers and bodies, valid ones and
// others, against an oracle of regular expressions that looks at the whole text
// from its start and calls no other layer.

const (
	end  = "\r\n"
	last = "0\r\n\r\n"
)

// These speak of runes, one for each byte (see wide).
var (
	lineForm  = regexp.MustCompile(`^([^\r\n]{0,128})\r\n`)
	beginForm = regexp.MustCompile(`^[^\r\n]{0,128}\r?$`)
	longForm  = regexp.MustCompile(`^[^\r\n]{129}`)
	sizeForm  = regexp.MustCompile(`^([0-9A-Fa-f]+)(;[\t -~\x{80}-\x{ff}]*)?$`)
	fieldForm = regexp.MustCompile("^[-!#$%&'*+.^_`|~0-9A-Za-z]+:[\\t -~\\x{80}-\\x{ff}]*$")
)

// view is what there is to see after some bytes of a text: the state, the body
// so far, how many bytes were read, and the error.
type view struct {
	phase, left, trailer int
	line, body           string
	n                    int
	e                    api.Errno
}

func viewOf(c api.Chunk, body []byte, n int, e api.Errno) view {
	return view{c.Phase, c.Left, c.Trailer, string(c.Line), string(body), n, e}
}

func (v view) String() string {
	return fmt.Sprintf("{phase %d, left %d, trailer %d, line %q, body %q, %d bytes read, error %d}", v.phase, v.left, v.trailer, v.line, v.body, v.n, v.e)
}

func failed(e api.Errno) view { return view{e: e} }

// wide returns a string with a rune for each byte of s, so that the expressions speak of bytes.
func wide(s string) string {
	runes := make([]rune, len(s))
	for i := range len(s) {
		runes[i] = rune(s[i])
	}
	return string(runes)
}

func narrow(s string) string {
	var b []byte
	for _, r := range s {
		b = append(b, byte(r))
	}
	return string(b)
}

// first returns the first n runes of s, or all if it has fewer, and those behind them.
func first(s string, n int) (string, string) {
	for i := range s {
		if n == 0 {
			return s[:i], s[i:]
		}
		n--
	}
	return s, ""
}

// lookLine returns the line with which s begins, what is behind it, and whether it is complete.
func lookLine(s string) (line, rest string, complete bool, e api.Errno) {
	switch m := lineForm.FindStringSubmatch(s); {
	case m != nil:
		return m[1], s[len(m[0]):], true, api.OK
	case beginForm.MatchString(s):
		return "", s, false, api.OK
	case longForm.MatchString(s):
		return "", s, false, api.ErrLimit
	}
	return "", s, false, api.ErrSyntax
}

// look returns what there is to see after all of s, or after the body with which s begins.
func look(s string) view {
	rest, body := wide(s), ""
	for {
		line, behind, complete, e := lookLine(rest)
		m := sizeForm.FindStringSubmatch(line)
		switch {
		case e != api.OK:
			return failed(e)
		case !complete:
			return view{line: narrow(rest), body: body, n: len(s)}
		case m == nil:
			return failed(api.ErrSyntax)
		}
		size, _ := new(big.Int).SetString(m[1], 16)
		if size.Cmp(big.NewInt(1000000000)) > 0 {
			return failed(api.ErrLimit)
		}
		if size.Sign() == 0 {
			return lookTrailer(s, body, behind)
		}
		data, behind := first(behind, int(size.Int64()))
		body += narrow(data)
		if left := int(size.Int64()) - len(narrow(data)); left > 0 {
			return view{phase: api.ChunkData, left: left, body: body, n: len(s)}
		}
		line, rest, complete, e = lookLine(behind)
		switch {
		case e != api.OK:
			return failed(e)
		case !complete:
			return view{phase: api.ChunkEnd, line: narrow(rest), body: body, n: len(s)}
		case line != "":
			return failed(api.ErrSyntax)
		}
	}
}

// lookTrailer goes on with look in the trailer section of s.
func lookTrailer(s, body, trailer string) view {
	rest, tooMany := first(trailer, 1024)
	for {
		line, behind, complete, e := lookLine(rest)
		read := len(s) - len(narrow(behind)) - len(narrow(tooMany))
		size := read - (len(s) - len(narrow(trailer)))
		switch {
		case e != api.OK:
			return failed(e)
		case !complete && tooMany != "":
			return failed(api.ErrLimit)
		case !complete:
			return view{phase: api.ChunkTrailer, trailer: len(narrow(trailer)), line: narrow(rest), body: body, n: len(s)}
		case line == "":
			return view{phase: api.ChunkDone, trailer: size, body: body, n: read}
		case !fieldForm.MatchString(line):
			return failed(api.ErrSyntax)
		}
		rest = behind
	}
}

// wantFeed returns what there is to see when b is fed behind the bytes of before.
func wantFeed(before, b string, room int) view {
	got := len(look(before).body)
	for n := 0; ; n++ {
		v := look(before + b[:n])
		if v.e != api.OK {
			return v
		}
		full := v.phase == api.ChunkData && len(v.body)-got >= max(room, 0)
		if full || v.phase == api.ChunkDone || n == len(b) {
			v.body, v.n = v.body[got:], n
			return v
		}
	}
}

// wantDecode returns what Decode makes of b; it has no state.
func wantDecode(b string) view {
	v := look(b)
	switch {
	case v.e != api.OK:
		return v
	case v.phase != api.ChunkDone:
		return failed(api.ErrMore)
	}
	return view{body: v.body, n: v.n}
}

func feed(c api.Chunk, b string, room int) view { return viewOf(chunked.Feed(c, []byte(b), room)) }

func decode(b string) view {
	body, n, e := chunked.Decode([]byte(b))
	return viewOf(api.Chunk{}, body, n, e)
}

// after returns the state behind the bytes of s, and fails if there is none.
func after(t *testing.T, s string) api.Chunk {
	t.Helper()
	c, _, n, e := chunked.Feed(api.Chunk{}, []byte(s), len(s))
	if n != len(s) || e != api.OK {
		t.Fatalf("Feed(%q) reads %d bytes, %d", s, n, e)
	}
	return c
}

// feedAll feeds the pieces of s that cut asks for, one after the other, and
// returns what there is to see in the end.
func feedAll(t *testing.T, s string, cut func() (size, room int)) view {
	t.Helper()
	var c api.Chunk
	var body []byte
	at := 0
	for at < len(s) && c.Phase != api.ChunkDone {
		size, room := cut()
		piece := s[at:min(at+size, len(s))]
		next, data, n, e := chunked.Feed(c, []byte(piece), room)
		if e != api.OK {
			return viewOf(next, data, n, e)
		}
		if n < 0 || n > len(piece) || len(data) > max(room, 0) {
			t.Fatalf("Feed(%v, %q, %d) reads %d bytes and returns %q", c, piece, room, n, data)
		}
		c, body, at = next, append(body, data...), at+n
	}
	return viewOf(c, body, at, api.OK)
}

// check compares all ways to decode s with the oracle; it does so twice, since
// nothing is kept from call to call.
func check(t *testing.T, s string) {
	t.Helper()
	want := look(s)
	for range 2 {
		if got := decode(s); got != wantDecode(s) {
			t.Fatalf("Decode(%q) = %v, want %v", s, got, wantDecode(s))
		}
		for _, room := range []int{len(s), math.MaxInt} {
			if got := feed(api.Chunk{}, s, room); got != want {
				t.Fatalf("Feed(%q, %d) = %v, want %v", s, room, got, want)
			}
		}
	}
	if got := feedAll(t, s, func() (int, int) { return 1, 1 }); got != want {
		t.Fatalf("Feed of each byte of %q = %v, want %v", s, got, want)
	}
}

func allBytes() string {
	b := make([]byte, 256)
	for i := range b {
		b[i] = byte(i)
	}
	return string(b)
}

// words returns all strings of at most n bytes of the alphabet.
func words(alphabet string, n int) []string {
	l := []string{""}
	for first := 0; n > 0; n-- {
		last := len(l)
		for _, w := range l[first:last] {
			for i := range len(alphabet) {
				l = append(l, w+alphabet[i:i+1])
			}
		}
		first = last
	}
	return l
}

// edits returns the strings that differ from s in one byte that is missing,
// replaced or added, for every byte there is.
func edits(s string) []string {
	all := allBytes()
	var l []string
	for at := range len(s) + 1 {
		for i := range all {
			l = append(l, s[:at]+all[i:i+1]+s[at:])
			if at < len(s) {
				l = append(l, s[:at]+all[i:i+1]+s[at+1:])
			}
		}
		if at < len(s) {
			l = append(l, s[:at]+s[at+1:])
		}
	}
	return l
}

func random(r *rand.Rand, alphabet string, most int) string {
	b := make([]byte, r.Intn(most+1))
	for i := range b {
		b[i] = alphabet[r.Intn(len(alphabet))]
	}
	return string(b)
}

func pick[E any](r *rand.Rand, l ...E) E { return l[r.Intn(len(l))] }

func randomSize(r *rand.Rand, n int) string {
	s := strings.Repeat("0", r.Intn(4)) + fmt.Sprintf(pick(r, "%x", "%X"), n)
	switch r.Intn(8) {
	case 0:
		s += ";" + random(r, "\t !:;=az~\x80\xff", 8)
	case 1:
		s = strings.Repeat("0", r.Intn(130)) + s
	case 2:
		s += ";" + strings.Repeat("x", r.Intn(130))
	}
	return s
}

// randomBody returns a body, which is nearly always valid.
func randomBody(r *rand.Rand) string {
	var b strings.Builder
	for range r.Intn(4) {
		data := random(r, allBytes(), pick(r, 1, 3, 20, 300))
		if data != "" {
			b.WriteString(randomSize(r, len(data)) + end + data + end)
		}
	}
	b.WriteString(randomSize(r, 0) + end)
	for range r.Intn(4) {
		b.WriteString(pick(r, "a", "Trailer", "!#~", "x-y") + ":" + random(r, " \tb:,;\x80\xff", pick(r, 3, 120)) + end)
	}
	return b.String() + end + random(r, allBytes(), 5)
}

// broken returns s with a few arbitrary changes.
func broken(r *rand.Rand, s string) string {
	for range 1 + r.Intn(3) {
		at := r.Intn(len(s) + 1)
		to := at + r.Intn(min(4, len(s)-at)+1)
		s = s[:at] + pick(r, "", "", "\r", "\n", end, "0", "f", ";", ":", " ", "\x00", random(r, allBytes(), 3)) + s[to:]
	}
	return s
}

// named has the cases of a whole body.
var named = []struct {
	s, body string
	n       int
	e       api.Errno
}{
	{last, "", 5, api.OK},
	{"3\r\nabc\r\n0\r\n\r\n", "abc", 13, api.OK},
	{"3\r\nabc\r\n0\r\n\r\nGET / HTTP/1.1\r\n", "abc", 13, api.OK},
	{"0\r\n\r\n0\r\n\r\n", "", 5, api.OK},
	{"1\r\na\r\n2\r\nbc\r\n" + last, "abc", 18, api.OK},
	{"5\r\n\r\n0\r\n\r\n" + last, "\r\n0\r\n", 15, api.OK},
	{"1\r\n\x00\r\n1\r\n\xff\r\n" + last, "\x00\xff", 17, api.OK},
	{"a\r\n0123456789\r\n" + last, "0123456789", 20, api.OK},
	{"A\r\n0123456789\r\n" + last, "0123456789", 20, api.OK},
	{"00a\r\n0123456789\r\n000\r\n\r\n", "0123456789", 24, api.OK},
	{"10\r\n0123456789abcdef\r\n" + last, "0123456789abcdef", 27, api.OK},

	{"1;\r\na\r\n0;\r\n\r\n", "a", 13, api.OK},
	{"1;;\r\na\r\n" + last, "a", 13, api.OK},
	{"1;x=y;z=\"1\"\r\na\r\n" + last, "a", 21, api.OK},
	{"1; \r\na\r\n" + last, "a", 13, api.OK},
	{"1; x \r\na\r\n" + last, "a", 15, api.OK},
	{"1;\t\r\na\r\n" + last, "a", 13, api.OK},
	{"1;\x80\xff~ \r\na\r\n" + last, "a", 16, api.OK},
	{"0;x\r\n\r\n", "", 7, api.OK},

	{"0\r\nA: b\r\n\r\n", "", 11, api.OK},
	{"0\r\nA:\r\nA:\r\n\r\n", "", 13, api.OK},
	{"0\r\nA:\t b: c \r\n\r\n", "", 16, api.OK},
	{"0\r\nContent-Length: 5\r\n\r\nabcde", "", 24, api.OK},
	{"0\r\n!: \x80\r\n\r\n", "", 11, api.OK},
	{"0\r\n0:0\r\n\r\n", "", 10, api.OK},

	{"", "", 0, api.ErrMore},
	{"3", "", 0, api.ErrMore},
	{"3\r", "", 0, api.ErrMore},
	{"3\r\n", "", 0, api.ErrMore},
	{"3\r\nabc", "", 0, api.ErrMore},
	{"3\r\nabc\r\n", "", 0, api.ErrMore},
	{"3\r\nabc\r\n0\r\n", "", 0, api.ErrMore},
	{"0\r\n\r", "", 0, api.ErrMore},
	{"0\r\nA: b\r\n", "", 0, api.ErrMore},
	{"g", "", 0, api.ErrMore},
	{" 1;\x00\r", "", 0, api.ErrMore},
	{"1\r\nabc", "", 0, api.ErrMore},
	{"0\r\n a b\r", "", 0, api.ErrMore},

	{end, "", 0, api.ErrSyntax},
	{"g\r\n", "", 0, api.ErrSyntax},
	{"3 \r\nabc", "", 0, api.ErrSyntax},
	{" 3\r\nabc", "", 0, api.ErrSyntax},
	{"3\t;x\r\n", "", 0, api.ErrSyntax},
	{"+3\r\n", "", 0, api.ErrSyntax},
	{"-0\r\n", "", 0, api.ErrSyntax},
	{"0x3\r\n", "", 0, api.ErrSyntax},
	{"1_0\r\n", "", 0, api.ErrSyntax},
	{"3h\r\n", "", 0, api.ErrSyntax},
	{"3,x\r\n", "", 0, api.ErrSyntax},
	{"3:x\r\n", "", 0, api.ErrSyntax},
	{";\r\n", "", 0, api.ErrSyntax},
	{";x\r\n", "", 0, api.ErrSyntax},
	{"\x003\r\n", "", 0, api.ErrSyntax},
	{"\u0663\r\n", "", 0, api.ErrSyntax},
	{"\xff\r\n", "", 0, api.ErrSyntax},
	{"1;\x00\r\n", "", 0, api.ErrSyntax},
	{"1;\x08\r\n", "", 0, api.ErrSyntax},
	{"1;\x0b\r\n", "", 0, api.ErrSyntax},
	{"1;\x1f\r\n", "", 0, api.ErrSyntax},
	{"1;\x7f\r\n", "", 0, api.ErrSyntax},
	{"1; \x00 \r\n", "", 0, api.ErrSyntax},
	{"0;a;\x01\r\n\r\n", "", 0, api.ErrSyntax},

	{"1\n", "", 0, api.ErrSyntax},
	{"\n", "", 0, api.ErrSyntax},
	{"1\ra", "", 0, api.ErrSyntax},
	{"1\r\r", "", 0, api.ErrSyntax},
	{"1;\n", "", 0, api.ErrSyntax},
	{"1;\r\r\n", "", 0, api.ErrSyntax},
	{"0\r\n\n", "", 0, api.ErrSyntax},
	{"0\r\n\r\r", "", 0, api.ErrSyntax},
	{"0\r\nA: b\n", "", 0, api.ErrSyntax},
	{"0\r\nA: b\r\r\n", "", 0, api.ErrSyntax},

	{"1\r\na0\r\n\r\n", "", 0, api.ErrSyntax},
	{"1\r\nab\r\n", "", 0, api.ErrSyntax},
	{"1\r\na \r\n", "", 0, api.ErrSyntax},
	{"1\r\na\n", "", 0, api.ErrSyntax},
	{"1\r\na\r0", "", 0, api.ErrSyntax},
	{"1\r\na\r\n\r\n", "", 0, api.ErrSyntax},
	{"2\r\na\r\n0\r\n\r\n", "", 0, api.ErrSyntax},

	{"0\r\na b\r\n", "", 0, api.ErrSyntax},
	{"0\r\n: b\r\n", "", 0, api.ErrSyntax},
	{"0\r\na : b\r\n", "", 0, api.ErrSyntax},
	{"0\r\n a: b\r\n", "", 0, api.ErrSyntax},
	{"0\r\na: b\r\n c\r\n", "", 0, api.ErrSyntax},
	{"0\r\n \r\n\r\n", "", 0, api.ErrSyntax},
	{"0\r\na: \x00\r\n", "", 0, api.ErrSyntax},
	{"0\r\na: \x7f\r\n", "", 0, api.ErrSyntax},
	{"0\r\n\xe4: b\r\n", "", 0, api.ErrSyntax},
	{"0\r\n0\r\n\r\n", "", 0, api.ErrSyntax},

	{"3b9aca01\r\n", "", 0, api.ErrLimit},
	{"3B9ACA01;x\r\n", "", 0, api.ErrLimit},
	{"0000003b9aca01\r\n", "", 0, api.ErrLimit},
	{"ffffffff\r\n", "", 0, api.ErrLimit},
	{"100000000\r\n", "", 0, api.ErrLimit},
	{"100000001\r\na\r\n" + last, "", 0, api.ErrLimit},
	{"10000000000000000\r\n", "", 0, api.ErrLimit},
	{"10000000000000001\r\na\r\n" + last, "", 0, api.ErrLimit},
	{"7fffffffffffffff\r\n", "", 0, api.ErrLimit},
	{"8000000000000000\r\n", "", 0, api.ErrLimit},
	{strings.Repeat("f", 128) + end, "", 0, api.ErrLimit},
	{"3b9aca00\r\n", "", 0, api.ErrMore},

	// A syntax error of a line comes before the limit of the size.
	{"ffffffffffffffffg\r\n", "", 0, api.ErrSyntax},
	{"ffffffffffffffff \r\n", "", 0, api.ErrSyntax},
	{"3b9aca01;\x00\r\n", "", 0, api.ErrSyntax},
	{"3b9aca01;x\x7f\r\n", "", 0, api.ErrSyntax},
	{"3b9aca01\n", "", 0, api.ErrSyntax},
	{"3b9aca01\r\r", "", 0, api.ErrSyntax},
	{"3b9aca01\r", "", 0, api.ErrMore},
}

// P9.1

// states has the states behind the beginnings of bodies.
var states = []struct {
	s    string
	want api.Chunk
	body string
}{
	{"", api.Chunk{}, ""},
	{"1", api.Chunk{Line: []byte("1")}, ""},
	{"1;\x00 z", api.Chunk{Line: []byte("1;\x00 z")}, ""},
	{"12\r", api.Chunk{Line: []byte("12\r")}, ""},
	{"\r", api.Chunk{Line: []byte("\r")}, ""},
	{"12\r\n", api.Chunk{Phase: api.ChunkData, Left: 18}, ""},
	{"3b9aca00;x\r\n", api.Chunk{Phase: api.ChunkData, Left: 1000000000}, ""},
	{"3b9aca00\r\n12", api.Chunk{Phase: api.ChunkData, Left: 999999998}, "12"},
	{"2\r\n\r", api.Chunk{Phase: api.ChunkData, Left: 1}, "\r"},
	{"2\r\n\r\n", api.Chunk{Phase: api.ChunkEnd}, "\r\n"},
	{"2\r\nab\r", api.Chunk{Phase: api.ChunkEnd, Line: []byte("\r")}, "ab"},
	{"2\r\nabx", api.Chunk{Phase: api.ChunkEnd, Line: []byte("x")}, "ab"},
	{"2\r\nab\r\n", api.Chunk{}, "ab"},
	{"2\r\nab\r\n1\r\n", api.Chunk{Phase: api.ChunkData, Left: 1}, "ab"},
	{"2\r\nab\r\n0", api.Chunk{Line: []byte("0")}, "ab"},
	{"2\r\nab\r\n0\r\n", api.Chunk{Phase: api.ChunkTrailer}, "ab"},
	{"000;\r\na", api.Chunk{Phase: api.ChunkTrailer, Trailer: 1, Line: []byte("a")}, ""},
	{"0\r\na: b\r", api.Chunk{Phase: api.ChunkTrailer, Trailer: 5, Line: []byte("a: b\r")}, ""},
	{"0\r\na: b\r\n", api.Chunk{Phase: api.ChunkTrailer, Trailer: 6}, ""},
	{"0\r\na: b\r\n\r", api.Chunk{Phase: api.ChunkTrailer, Trailer: 7, Line: []byte("\r")}, ""},
	{"0\r\na: b\r\n\r\n", api.Chunk{Phase: api.ChunkDone, Trailer: 8}, ""},
	{"1\r\na\r\n0\r\n\r\n", api.Chunk{Phase: api.ChunkDone, Trailer: 2}, "a"},
}

func TestFeedStates(t *testing.T) {
	for _, x := range states {
		want := viewOf(x.want, []byte(x.body), len(x.s), api.OK)
		if got := feed(api.Chunk{}, x.s, len(x.s)); got != want {
			t.Errorf("Feed(%q) = %v, want %v", x.s, got, want)
		}
		check(t, x.s)
	}
}

// In each state Feed stops at the end of b, with nothing read if b is empty.
func TestFeedNothing(t *testing.T) {
	for _, x := range states {
		for _, room := range []int{math.MinInt, -1, 0, 1, 5, math.MaxInt} {
			for _, b := range [][]byte{nil, {}} {
				want := viewOf(x.want, nil, 0, api.OK)
				if got := viewOf(chunked.Feed(after(t, x.s), b, room)); got != want {
					t.Errorf("Feed of nothing behind %q = %v, want %v", x.s, got, want)
				}
			}
		}
	}
}

// Behind a body Feed reads nothing.
func TestFeedDone(t *testing.T) {
	for _, s := range []string{last, "1\r\na\r\n0\r\n\r\n", "0\r\na: b\r\n\r\n"} {
		c := after(t, s)
		want := viewOf(c, nil, 0, api.OK)
		for _, b := range append(words("\r\n0a", 3), allBytes(), strings.Repeat("x", 3000)) {
			for _, room := range []int{math.MinInt, -1, 0, 1, 5000, math.MaxInt} {
				if got := feed(c, b, room); got != want {
					t.Errorf("Feed(%q) behind %q = %v, want %v", b, s, got, want)
				}
			}
		}
	}
}

// rooms has cases of a room that is full, or just not full, at a place that matters.
var rooms = []struct {
	before, b string
	room      int
	phase     int
	left      int
	body      string
	n         int
}{
	{"", "3\r\nabc\r\n", 0, api.ChunkData, 3, "", 3},
	{"", "3\r\nabc\r\n", -1, api.ChunkData, 3, "", 3},
	{"", "3\r\nabc\r\n", math.MinInt, api.ChunkData, 3, "", 3},
	{"", "3\r\nabc\r\n", 1, api.ChunkData, 2, "a", 4},
	{"", "3\r\nabc\r\n", 2, api.ChunkData, 1, "ab", 5},
	{"", "3\r\nabc\r\n", 3, api.ChunkSize, 0, "abc", 8},
	{"", "3\r\nabc\r\n", 4, api.ChunkSize, 0, "abc", 8},
	{"", "3\r\nabc\r\n", math.MaxInt, api.ChunkSize, 0, "abc", 8},
	{"", "3\r\nabc\r\n2\r\nde\r\n0\r\n\r\n", 3, api.ChunkData, 2, "abc", 11},
	{"", "3\r\nabc\r\n2\r\nde\r\n0\r\n\r\n", 4, api.ChunkData, 1, "abcd", 12},
	{"", "3\r\nabc\r\n2\r\nde\r\n0\r\n\r\n", 5, api.ChunkDone, 0, "abcde", 20},
	{"", "3\r\nabc\r\n0\r\n\r\nx", 3, api.ChunkDone, 0, "abc", 13},
	{"3\r\n", "abc", 0, api.ChunkData, 3, "", 0},
	{"3\r\n", "abc", -1, api.ChunkData, 3, "", 0},
	{"3\r\n", "abc", 2, api.ChunkData, 1, "ab", 2},
	{"3\r\nab", "c\r\n", 0, api.ChunkData, 1, "", 0},
	{"3\r\nab", "c\r\n", 1, api.ChunkSize, 0, "c", 3},
	{"3\r\nabc", "\r\n0\r\n\r\n", 0, api.ChunkDone, 0, "", 7},
	{"3\r\nabc", "\r\n0\r\n\r\n", -5, api.ChunkDone, 0, "", 7},
	{"3\r\nabc", "\r\n1\r\nx", 0, api.ChunkData, 1, "", 5},
	{"3\r\nabc\r\n1\r", "\nx\r\n0\r\n", 0, api.ChunkData, 1, "", 1},
	{"", "0\r\n\r\n", 0, api.ChunkDone, 0, "", 5},
	{"0\r\n", "a: b\r\n\r\nx", -1, api.ChunkDone, 0, "", 8},
}

func TestFeedRoom(t *testing.T) {
	for _, x := range rooms {
		got := feed(after(t, x.before), x.b, x.room)
		if got.phase != x.phase || got.left != x.left || got.body != x.body || got.n != x.n || got.line != "" || got.e != api.OK {
			t.Errorf("Feed(%q, %d) behind %q = %v, want %+v", x.b, x.room, x.before, got, x)
		}
		if want := wantFeed(x.before, x.b, x.room); got != want {
			t.Errorf("Feed(%q, %d) behind %q = %v, want %v", x.b, x.room, x.before, got, want)
		}
	}
}

// A room that is full hides the errors behind it, and one that is not does not.
func TestFeedRoomAndErrors(t *testing.T) {
	for _, x := range []struct {
		b    string
		room int
		e    api.Errno
	}{
		{"1\r\na0", 0, api.OK},
		{"1\r\na\n", 0, api.OK},
		{"1\r\na\n", 1, api.ErrSyntax},
		{"2\r\nab\n", 1, api.OK},
		{"1\r\na\r\ng\r\n", 0, api.OK},
		{"1\r\na\r\ng\r\n", 1, api.ErrSyntax},
		{"1\r\na\r\n1\r\n\r\r\r", 1, api.OK},
		{"1\r\na\r\n1\r\n\r\r\r", 2, api.ErrSyntax},
		{"1\r\na\r\n3b9aca01\r\n", 1, api.ErrLimit},
		{"0\r\n\n", 0, api.ErrSyntax},
		{"0\r\n\r\n\n", 0, api.OK},
	} {
		got := feed(api.Chunk{}, x.b, x.room)
		if got.e != x.e || got.e != api.OK && got != failed(x.e) {
			t.Errorf("Feed(%q, %d) = %v, want %d", x.b, x.room, got, x.e)
		}
		if want := wantFeed("", x.b, x.room); got != want {
			t.Errorf("Feed(%q, %d) = %v, want %v", x.b, x.room, got, want)
		}
	}
}

// samples has bodies with all parts that a body may have.
var samples = []string{
	last + "xy",
	"3;x=y\r\nabc\r\n2\r\n\r\n\r\n0\r\nT: u\r\n\r\nz",
	"1\r\na\r\n1\r\nb\r\n00\r\n\r\n",
	"1\r\n\n\r\n1;\r\n\r\r\n0;\t\r\n!:\r\nA:b\r\n\r\n",
	"a;\x80\r\n0\r\n\r\n0\r\n\r\n\r\nB\r\nGET / HTTP/\r\n0\r\n\r\n",
}

// All states behind a beginning, all pieces behind it, and all rooms.
func TestFeedPieces(t *testing.T) {
	for _, s := range samples {
		for at := range len(s) + 1 {
			if look(s[:at]).n < at {
				break
			}
			c := after(t, s[:at])
			for to := at; to <= len(s); to++ {
				for room := -1; room <= 6; room++ {
					want := wantFeed(s[:at], s[at:to], room)
					if got := feed(c, s[at:to], room); got != want {
						t.Fatalf("Feed(%q, %d) behind %q = %v, want %v", s[at:to], room, s[:at], got, want)
					}
				}
			}
		}
	}
}

// Each byte there is, in each state.
func TestFeedEveryByte(t *testing.T) {
	all := allBytes()
	for _, s := range samples {
		for at := range len(s) {
			if look(s[:at]).n < at {
				break
			}
			c := after(t, s[:at])
			for i := range all {
				want := wantFeed(s[:at], all[i:i+1], 1)
				if got := feed(c, all[i:i+1], 1); got != want {
					t.Fatalf("Feed(%q) behind %q = %v, want %v", all[i:i+1], s[:at], got, want)
				}
			}
		}
	}
}

func TestFeedEdits(t *testing.T) {
	for _, s := range samples {
		for _, edited := range edits(s) {
			check(t, edited)
		}
	}
}

// All short texts of the bytes that matter, behind beginnings that lead to each phase.
func TestFeedWords(t *testing.T) {
	for _, before := range []string{"", "1\r\nx", "0\r\n", "0\r\na:", "1;"} {
		for _, s := range words("\r\n01;:aG ", 4) {
			check(t, before+s)
		}
	}
	for _, s := range words("\r\n01", 7) {
		check(t, s)
	}
}

// Lines of each phase with about 128 bytes, whole and cut off, with all line ends.
func TestFeedLongLines(t *testing.T) {
	for n := 124; n <= 133; n++ {
		for _, line := range []string{
			strings.Repeat("0", n),
			strings.Repeat("0", n-1) + "1",
			"1;" + strings.Repeat("x", n-2),
			strings.Repeat("g", n),
			"a:" + strings.Repeat("b", n-2),
			strings.Repeat("\x80", n),
		} {
			for _, before := range []string{"", "1\r\nx", "1\r\nx\r\n", "0\r\n", "0\r\na: b\r\n"} {
				for _, behind := range []string{"", "\r", "\n", "\r\r", "\n\r", end, end + end, end + "y" + end + last} {
					check(t, before+line+behind)
				}
			}
		}
	}
}

func TestFeedLineLimit(t *testing.T) {
	zeros := strings.Repeat("0", 127)
	for _, x := range []struct {
		s    string
		want view
	}{
		{zeros + "1", view{line: zeros + "1", n: 128}},
		{zeros + "1\r", view{line: zeros + "1\r", n: 129}},
		{zeros + "1\r\n", view{phase: api.ChunkData, left: 1, n: 130}},
		{zeros + "00", failed(api.ErrLimit)},
		{zeros + "1;", failed(api.ErrLimit)},
		{zeros + "1\n", failed(api.ErrSyntax)},
		{zeros + "1\r\r", failed(api.ErrSyntax)},
		{zeros + "1\rx", failed(api.ErrSyntax)},
		{zeros + "g" + "0", failed(api.ErrLimit)},
		{zeros + "g" + end, failed(api.ErrSyntax)},
		{"1\r\nx" + zeros + "0", view{phase: api.ChunkEnd, line: zeros + "0", body: "x", n: 132}},
		{"1\r\nx" + zeros + "00", failed(api.ErrLimit)},
		{"0\r\na:" + zeros[:126], view{phase: api.ChunkTrailer, trailer: 128, line: "a:" + zeros[:126], n: 131}},
		{"0\r\na:" + zeros, failed(api.ErrLimit)},
		{"0\r\na:" + zeros[:126] + end, view{phase: api.ChunkTrailer, trailer: 130, n: 133}},
	} {
		if got := feed(api.Chunk{}, x.s, len(x.s)); got != x.want {
			t.Errorf("Feed(%q) = %v, want %v", x.s, got, x.want)
		}
		check(t, x.s)
	}
}

// fill returns n bytes of lines of a trailer section, which are all complete.
func fill(n int) string {
	var b strings.Builder
	for ; n >= 100; n -= 50 {
		b.WriteString("a: " + strings.Repeat("b", 45) + end)
	}
	return b.String() + "a:" + strings.Repeat("c", n-4) + end
}

func TestFeedTrailerLimit(t *testing.T) {
	whole := fill(1022)
	for _, x := range []struct {
		trailer string
		want    view
	}{
		{whole + end, view{phase: api.ChunkDone, trailer: 1024, n: 1027}},
		{whole + end + "x", view{phase: api.ChunkDone, trailer: 1024, n: 1027}},
		{fill(1021) + end, view{phase: api.ChunkDone, trailer: 1023, n: 1026}},
		{whole, view{phase: api.ChunkTrailer, trailer: 1022, n: 1025}},
		{whole + "\r", view{phase: api.ChunkTrailer, trailer: 1023, line: "\r", n: 1026}},
		{whole + "ab", view{phase: api.ChunkTrailer, trailer: 1024, line: "ab", n: 1027}},
		{fill(1024), view{phase: api.ChunkTrailer, trailer: 1024, n: 1027}},
		{fill(1023) + end, failed(api.ErrLimit)},
		{fill(1024) + end, failed(api.ErrLimit)},
		{fill(1024) + "\n", failed(api.ErrLimit)},
		{fill(1024) + "a", failed(api.ErrLimit)},
		{fill(1023) + "\n", failed(api.ErrSyntax)},
		{fill(1023) + "\r\r", failed(api.ErrLimit)},
		{fill(1022) + "\r\r", failed(api.ErrSyntax)},
		{fill(1020) + "ab\r\n", failed(api.ErrSyntax)},
		{fill(1021) + "ab\r\n", failed(api.ErrLimit)},
		{strings.Repeat("a:\r\n", 255) + "a:" + end, view{phase: api.ChunkTrailer, trailer: 1024, n: 1027}},
	} {
		s := "0\r\n" + x.trailer
		if got := feed(api.Chunk{}, s, len(s)); got != x.want {
			t.Errorf("Feed(%q) = %v, want %v", s, got, x.want)
		}
		check(t, s)
		// The chunks before do not count.
		check(t, "1\r\nx\r\n"+s)
	}
}

// Sizes around the limit and around powers of two, also with letters in upper case and zeros before.
func TestFeedSizes(t *testing.T) {
	for bits := range 140 {
		for delta := int64(-2); delta <= 2; delta++ {
			n := new(big.Int).Lsh(big.NewInt(1), uint(bits))
			if bits > 130 {
				n.Sub(big.NewInt(1000000000), big.NewInt(int64(140-bits)))
			}
			n.Add(n, big.NewInt(delta))
			for _, s := range []string{n.Text(16), strings.ToUpper(n.Text(16)), "000" + n.Text(16), n.Text(16) + ";x"} {
				check(t, s+end)
				check(t, s+end+"abc"+end+last)
			}
		}
	}
}

// Each byte there is at each end and in the middle of an extension, and in the place of a size.
func TestFeedSizeLines(t *testing.T) {
	all := allBytes()
	for i := range all {
		c := all[i : i+1]
		for _, line := range []string{c, c + "1", "1" + c, c + c, "1" + c + "1", "1;" + c, "1;" + c + "x", "1;x" + c, "1;" + c + ";", "3b9aca01;" + c, c + ";", "1;" + c + c} {
			check(t, line+end+"a"+end+last)
		}
		for _, line := range []string{c, c + ":", c + ":b", "a" + c, "a" + c + ":b", "a:" + c, "a:" + c + "b", "a:b" + c + "b", "a:b" + c, " " + c, c + "a:"} {
			check(t, "0\r\n"+line+end+end)
		}
	}
}

func TestFeedRandom(t *testing.T) {
	r := rand.New(rand.NewSource(9))
	for range 6000 {
		check(t, random(r, allBytes(), 30))
		check(t, random(r, "\r\n\r\n0123af;:x ", 40))
		s := randomBody(r)
		check(t, s)
		check(t, s[:r.Intn(len(s)+1)])
		check(t, broken(r, s))
	}
}

// Arbitrary pieces and rooms give the same in the end.
func TestFeedRandomPieces(t *testing.T) {
	r := rand.New(rand.NewSource(10))
	for range 6000 {
		s := randomBody(r)
		if r.Intn(3) == 0 {
			s = broken(r, s)
		}
		most := pick(r, 1, 3, 40, 400)
		cut := func() (int, int) {
			return r.Intn(most + 1), pick(r, -1, 0, 1, r.Intn(most+1), most, math.MaxInt)
		}
		want := look(s)
		if got := feedAll(t, s, cut); got != want {
			t.Fatalf("Feed of pieces of %q = %v, want %v", s, got, want)
		}
	}
}

// wild returns an arbitrary state, which Feed does not return.
func wild(r *rand.Rand) api.Chunk {
	number := func() int {
		return pick(r, 0, 1, 2, 5, -1, 1023, 1024, 1025, api.MaxLength, math.MaxInt, math.MinInt, r.Int(), -r.Int())
	}
	return api.Chunk{
		Phase:   pick(r, 0, 1, 2, 3, 4, 5, -1, number()),
		Left:    number(),
		Trailer: number(),
		Line:    []byte(pick(r, "", "\r", "\n", "1\r\n", "\r\r", strings.Repeat("x", 300), random(r, allBytes(), 140))),
	}
}

// Other states have no meaning, but Feed ends for them, and changes nothing.
func TestFeedOtherStates(t *testing.T) {
	r := rand.New(rand.NewSource(11))
	for range 30000 {
		c := wild(r)
		b := []byte(pick(r, random(r, allBytes(), 30), random(r, "\r\n0a:;", 30), randomBody(r)))
		room := pick(r, -1, 0, 1, 5, len(b), math.MaxInt, math.MinInt)
		line, before := bytes.Clone(c.Line), bytes.Clone(b)
		got := viewOf(chunked.Feed(c, b, room))
		if again := viewOf(chunked.Feed(c, b, room)); got != again {
			t.Fatalf("Feed(%v, %q, %d) = %v, and then %v", c, b, room, got, again)
		}
		if !bytes.Equal(line, c.Line) || !bytes.Equal(before, b) {
			t.Fatalf("Feed(%v, %q, %d) changes its arguments", c, b, room)
		}
		if got.n < 0 || got.n > len(b) || len(got.body) > max(room, 0) {
			t.Fatalf("Feed(%v, %q, %d) = %v", c, b, room, got)
		}
	}
}

// spare returns the bytes of s in a longer array, and the array.
func spare(s string) ([]byte, []byte) {
	array := []byte(s + strings.Repeat("#", 200))
	return array[:len(s)], array
}

// The line of a state grows in memory of its own: the state before it can be
// fed again, with other bytes.
func TestFeedKeepsArguments(t *testing.T) {
	for _, s := range []string{"", "1", "1\r", "3\r\na", "3\r\nabc", "3\r\nabc\r", "0\r\n", "0\r\na: b", "0\r\na: b\r", "1;xxxxxxxxxxxx"} {
		c := after(t, s)
		line, lineArray := spare(string(c.Line))
		c.Line = line
		for _, next := range []string{"", "0", "bc", "\r", "\n", "\nabc\r\n0\r\n", "\r\n1\r\n", ": c\r\na: b", "xyz"} {
			b, bArray := spare(next)
			lineBefore, bBefore := bytes.Clone(lineArray), bytes.Clone(bArray)
			got := viewOf(chunked.Feed(c, b, 100))
			if want := wantFeed(s, next, 100); got != want {
				t.Errorf("Feed(%q) behind %q = %v, want %v", next, s, got, want)
			}
			if !bytes.Equal(lineArray, lineBefore) || !bytes.Equal(bArray, bBefore) {
				t.Errorf("Feed(%q) behind %q changes its arguments", next, s)
			}
		}
	}
}

// overwrite changes all bytes of b, and those behind it in its memory.
func overwrite(b []byte) {
	b = b[:cap(b)]
	for i := range b {
		b[i] = '#'
	}
}

// A result stays as it is when the arguments or the other result are overwritten, and they stay when it is.
func TestFeedSharesNothing(t *testing.T) {
	for _, s := range []string{"", "12", "1\r", "5\r\nab", "5\r\nabcde", "0\r\na: b"} {
		for _, next := range []string{"", "3", "cd", "cde\r\n1;x", "\r\n1;x", "\n", ": c", "cde\r", "c\r"} {
			c, b := after(t, s), []byte(next)
			c.Line = append(bytes.Clone(c.Line), "zz"...)[:len(c.Line)]
			line := string(c.Line)
			d, body, n, e := chunked.Feed(c, b, 100)
			want := viewOf(d, body, n, e)
			overwrite(c.Line)
			overwrite(b)
			if got := viewOf(d, body, n, e); got != want {
				t.Errorf("the results of Feed(%q) behind %q share memory with the arguments", next, s)
			}
			copy(c.Line, line)
			copy(b, next)
			kept := string(d.Line)
			overwrite(body)
			if string(d.Line) != kept {
				t.Errorf("the results of Feed(%q) behind %q share memory", next, s)
			}
			overwrite(d.Line)
			if string(c.Line) != line || string(b) != next {
				t.Errorf("the arguments of Feed(%q) behind %q share memory with the results", next, s)
			}
		}
	}
}

// The line of a state is not shared by the states that come from it.
func TestFeedBranches(t *testing.T) {
	for _, before := range []string{"1", "1;abc", "0\r\na:", "1\r\nx\r"} {
		c := after(t, before)
		d, _, _, _ := chunked.Feed(c, nil, 0)
		left, _, _, _ := chunked.Feed(d, []byte("1"), 0)
		right, _, _, _ := chunked.Feed(d, []byte("2"), 0)
		if got, want := viewOf(left, nil, 1, api.OK), wantFeed(before, "1", 0); want.e == api.OK && got != want {
			t.Errorf("%q: %v, want %v", before, got, want)
		}
		if got, want := viewOf(right, nil, 1, api.OK), wantFeed(before, "2", 0); want.e == api.OK && got != want {
			t.Errorf("%q: %v, want %v", before, got, want)
		}
	}
}

// P9.2

func TestDecode(t *testing.T) {
	for _, x := range named {
		want := view{body: x.body, n: x.n, e: x.e}
		if got := decode(x.s); got != want {
			t.Errorf("Decode(%q) = %v, want %v", x.s, got, want)
		}
		check(t, x.s)
	}
}

// Each beginning of a body is not complete, and what is behind a body does not matter.
func TestDecodeBeginnings(t *testing.T) {
	r := rand.New(rand.NewSource(12))
	for range 300 {
		s := randomBody(r)
		v := look(s)
		if v.phase != api.ChunkDone {
			continue
		}
		s = s[:v.n]
		for n := range len(s) {
			if got := decode(s[:n]); got != failed(api.ErrMore) {
				t.Fatalf("Decode(%q) = %v", s[:n], got)
			}
		}
		for _, behind := range []string{"", "\r\n", "\n", "0", "x", s, random(r, allBytes(), 50)} {
			if got, want := decode(s+behind), (view{body: v.body, n: v.n}); got != want {
				t.Fatalf("Decode(%q) = %v, want %v", s+behind, got, want)
			}
		}
	}
}

func TestDecodeSharesNothing(t *testing.T) {
	b, array := spare("3\r\nabc\r\n1\r\nd\r\n" + last)
	before := bytes.Clone(array)
	body, n, e := chunked.Decode(b)
	again, _, _ := chunked.Decode(b)
	if !bytes.Equal(array, before) {
		t.Errorf("Decode changes its argument")
	}
	overwrite(again)
	if !bytes.Equal(array, before) || string(body) != "abcd" {
		t.Errorf("the result of Decode is shared")
	}
	overwrite(array)
	if string(body) != "abcd" || n != len(b) || e != api.OK {
		t.Errorf("Decode = %q, %d, %d", body, n, e)
	}
}

func TestDecodeGreat(t *testing.T) {
	data := strings.Repeat("0123456789abcde\n", 1<<16)
	s := fmt.Sprintf("%x;x\r\n%s\r\n%x\r\n%s\r\n%s", len(data), data, 5, data[:5], last)
	for _, x := range []struct{ s, body string }{
		{s, data + data[:5]},
		{strings.Repeat("1\r\na\r\n", 200000) + last, strings.Repeat("a", 200000)},
	} {
		body, n, e := chunked.Decode([]byte(x.s + "z"))
		if string(body) != x.body || n != len(x.s) || e != api.OK {
			t.Errorf("Decode of a great body = %d bytes, %d, %d", len(body), n, e)
		}
		if got := decode(x.s[:len(x.s)-1]); got != failed(api.ErrMore) {
			t.Errorf("Decode of a great body without its end = %d bytes, %d, %d", len(got.body), got.n, got.e)
		}
		got := feedAll(t, x.s, func() (int, int) { return 4096, 1000 })
		if got.body != x.body || got.n != len(x.s) || got.phase != api.ChunkDone || got.e != api.OK {
			t.Errorf("Feed of a great body = %d bytes, %d, %d", len(got.body), got.n, got.e)
		}
	}
}

// P9.3

func lists(l ...string) [][]byte {
	var b [][]byte
	for _, s := range l {
		b = append(b, []byte(s))
	}
	return b
}

func wantEncode(l [][]byte) string {
	s := ""
	for _, data := range l {
		if len(data) != 0 {
			s += fmt.Sprintf("%x\r\n%s\r\n", len(data), data)
		}
	}
	return s + last
}

func TestEncode(t *testing.T) {
	for _, x := range []struct {
		l    [][]byte
		want string
	}{
		{nil, last},
		{[][]byte{}, last},
		{[][]byte{nil}, last},
		{[][]byte{{}, nil, {}}, last},
		{lists("abc"), "3\r\nabc\r\n0\r\n\r\n"},
		{lists("a", "bc"), "1\r\na\r\n2\r\nbc\r\n0\r\n\r\n"},
		{lists("", "a", "", "", "b", ""), "1\r\na\r\n1\r\nb\r\n0\r\n\r\n"},
		{lists("\r\n", "0\r\n\r\n"), "2\r\n\r\n\r\n5\r\n0\r\n\r\n\r\n0\r\n\r\n"},
		{lists("\x00\xff;"), "3\r\n\x00\xff;\r\n0\r\n\r\n"},
		{lists("012345678"), "9\r\n012345678\r\n0\r\n\r\n"},
		{lists("0123456789"), "a\r\n0123456789\r\n0\r\n\r\n"},
		{lists("0123456789abcde"), "f\r\n0123456789abcde\r\n0\r\n\r\n"},
		{lists("0123456789abcdef"), "10\r\n0123456789abcdef\r\n0\r\n\r\n"},
		{lists(strings.Repeat("x", 171)), "ab\r\n" + strings.Repeat("x", 171) + "\r\n0\r\n\r\n"},
	} {
		if got := string(chunked.Encode(x.l...)); got != x.want {
			t.Errorf("Encode(%q) = %q, want %q", x.l, got, x.want)
		}
	}
	if got := string(chunked.Encode()); got != last {
		t.Errorf("Encode() = %q", got)
	}
}

func TestEncodeSizes(t *testing.T) {
	for _, near := range []int{16, 256, 4096, 65536, 1 << 20} {
		for n := near - 2; n <= near+2; n++ {
			l := lists(strings.Repeat("y", n), "z")
			if got, want := string(chunked.Encode(l...)), wantEncode(l); got != want {
				t.Errorf("Encode of %d bytes is wrong: it begins with %q", n, got[:9])
			}
		}
	}
}

func randomLists(r *rand.Rand) [][]byte {
	l := make([][]byte, r.Intn(5))
	for i := range l {
		l[i] = []byte(pick(r, "", "\r\n", last, "abc", random(r, allBytes(), 3), random(r, allBytes(), 40), random(r, "\r\n01;", 300)))
		if r.Intn(8) == 0 {
			l[i] = nil
		}
	}
	return l
}

func TestEncodeRandom(t *testing.T) {
	r := rand.New(rand.NewSource(13))
	for range 5000 {
		l := randomLists(r)
		before := make([][]byte, len(l))
		for i, data := range l {
			before[i] = bytes.Clone(data)
		}
		for range 2 {
			if got, want := string(chunked.Encode(l...)), wantEncode(before); got != want {
				t.Fatalf("Encode(%q) = %q, want %q", before, got, want)
			}
		}
		if !slices.EqualFunc(l, before, bytes.Equal) {
			t.Fatalf("Encode changes %q to %q", before, l)
		}
	}
}

func TestEncodeSharesNothing(t *testing.T) {
	a, array := spare("abc")
	whole := bytes.Clone(array)
	// The lists lie one behind the other, and over each other, in one array.
	l := [][]byte{a, array[3:5], a[1:], a}
	want := wantEncode(l)
	got, again := chunked.Encode(l...), chunked.Encode(l...)
	if string(got) != want || string(again) != want || !bytes.Equal(array, whole) {
		t.Errorf("Encode = %q, want %q, and the array is %q", got, want, array)
	}
	overwrite(again)
	if string(got) != want || !bytes.Equal(array, whole) {
		t.Errorf("the result of Encode is shared")
	}
	overwrite(array)
	if string(got) != want {
		t.Errorf("the result of Encode shares memory with its arguments")
	}
	empty, other := chunked.Encode(), chunked.Encode(nil)
	overwrite(empty)
	if string(other) != last || string(chunked.Encode()) != last {
		t.Errorf("the results of Encode without bytes share memory")
	}
}

// P9.4

func TestDecodeOfEncode(t *testing.T) {
	r := rand.New(rand.NewSource(14))
	for range 5000 {
		l := randomLists(r)
		coded := chunked.Encode(l...)
		behind := random(r, allBytes(), 10)
		body, n, e := chunked.Decode(append(bytes.Clone(coded), behind...))
		if string(body) != string(bytes.Join(l, nil)) || n != len(coded) || e != api.OK {
			t.Fatalf("Decode of Encode(%q) = %q, %d, %d", l, body, n, e)
		}
		if len(coded) < 60 {
			for n := range len(coded) {
				if got := decode(string(coded[:n])); got != failed(api.ErrMore) {
					t.Fatalf("Decode(%q) = %v", coded[:n], got)
				}
			}
		}
	}
}

// Feed of a body in any two pieces, and in pieces of any one size with any one
// room above 0, gives the same in the end.
func TestFeedDivided(t *testing.T) {
	for _, s := range append(samples, string(chunked.Encode(lists("abc", "", last, strings.Repeat("z", 20))...))) {
		want := look(s)
		for size := 1; size <= len(s); size++ {
			sizes := []int{size, len(s)}
			halves := func() (int, int) {
				n := sizes[0]
				sizes = append(sizes[1:], len(s))
				return n, len(s)
			}
			if got := feedAll(t, s, halves); got != want {
				t.Errorf("Feed of %q, cut at %d, = %v, want %v", s, size, got, want)
			}
			for room := 1; room <= len(s); room++ {
				if got := feedAll(t, s, func() (int, int) { return size, room }); got != want {
					t.Errorf("Feed of %q in pieces of %d, %d = %v, want %v", s, size, room, got, want)
				}
			}
		}
	}
}
