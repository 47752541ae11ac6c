package differ_test

import (
	"bytes"
	"encoding/hex"
	"fmt"
	"math"
	"math/rand"
	"slices"
	"strings"
	"testing"

	"canary/api"
	"canary/differ"
	"canary/normal"
)

// Each promise is checked on named cases, on all values that differ in a single byte, bit
// or field, on all pairs of short lists of fields, and on arbitrary replies, those that are
// valid and others, against an oracle with the digests of the standard library.

// Published digests.
const (
	sumOfNothing = "e3b0c44298fc1c149afbf4c8996fb92427ae41e4649b934ca495991b7852b855"
	sumOfABC     = "ba7816bf8f01cfea414140de5dae2223b00361a396177a9cb410ff61f20015ad"
)

// numbers are numbers that resemble others: in their last bits, or but for the sign.
var numbers = []int{
	0, 1, 2, -1, -2, 99, 100, 199, 200, 201, 204, 304, 404, 500, 599, 600, 999, 1000, 255, 256, -200, 200 + 256, 200 + 1<<16, 200 + 1<<31,
	200 + 1<<32, 1 << 31, 1 << 32, 1<<32 + 1, 1<<31 - 1, -1 << 31, 1000000000, math.MaxInt, math.MaxInt - 1, math.MinInt, math.MinInt + 1, math.MinInt + 200,
}

// of makes fields of names and values.
func of(l ...string) []api.Field {
	var fields []api.Field
	for i := 0; i < len(l); i += 2 {
		fields = append(fields, api.Field{Name: l[i], Value: l[i+1]})
	}
	return fields
}

func allBytes() string {
	b := make([]byte, 256)
	for i := range b {
		b[i] = byte(i)
	}
	return string(b)
}

// edits returns the strings that differ from s in one byte that is missing,
// replaced or added, for every byte there is, and s.
func edits(s string) []string {
	all := allBytes()
	l := []string{s}
	for at := range len(s) + 1 {
		for i := range all {
			l = append(l, s[:at]+all[i:i+1]+s[at:])
			if at < len(s) {
				l = append(l, s[:at]+all[i:i+1]+s[at+1:])
			}
		}
		if at < len(s) {
			l = append(l, s[:at]+s[at+1:])
		}
	}
	return l
}

// lists returns all lists of at most n of the fields, also with one field several times.
func lists(fields []api.Field, n int) [][]api.Field {
	l := [][]api.Field{nil}
	for first := 0; n > 0; n-- {
		last := len(l)
		for _, x := range l[first:last] {
			for _, f := range fields {
				l = append(l, append(slices.Clone(x), f))
			}
		}
		first = last
	}
	return l
}

func random(r *rand.Rand, most int) string {
	b := make([]byte, r.Intn(most+1))
	for i := range b {
		b[i] = byte(r.Intn(256))
	}
	return string(b)
}

func pick[E any](r *rand.Rand, l ...E) E { return l[r.Intn(len(l))] }

// recased returns s with some of its letters in the other case.
func recased(r *rand.Rand, s string) string {
	b := []byte(s)
	for i, c := range b {
		if (c|32) >= 'a' && (c|32) <= 'z' && r.Intn(3) == 0 {
			b[i] ^= 32
		}
	}
	return string(b)
}

func randomNumber(r *rand.Rand) int { return pick(r, 200, 500, pick(r, numbers...), int(r.Uint64())) }

func randomField(r *rand.Rand) api.Field {
	name := pick(r, "x-a", "x-b", "x-c", "Host", "Server", "Via", "Date", "Connection", "Content-Length", "Transfer-Encoding", "", random(r, 3))
	return api.Field{Name: recased(r, name), Value: pick(r, "", "1", "2", "x-a, x-b", "chunked", " ", random(r, 5))}
}

func randomFields(r *rand.Rand) []api.Field {
	l := make([]api.Field, r.Intn(8))
	for i := range l {
		l[i] = randomField(r)
	}
	return l
}

// randomReply returns a reply that need not be one that can be written.
func randomReply(r *rand.Rand) api.Reply {
	return api.Reply{
		Status: randomNumber(r), Reason: random(r, 4), Minor: randomNumber(r), Fields: randomFields(r),
		Body: []byte(pick(r, "", "abc", random(r, 70), random(r, 300))),
	}
}

func randomIgnored(r *rand.Rand) []string {
	l := make([]string, r.Intn(3))
	for i := range l {
		l[i] = randomField(r).Name
	}
	return l
}

// randomSeen returns what See returns, or something else of this type.
func randomSeen(r *rand.Rand) api.Seen {
	if r.Intn(2) == 0 {
		return wantSeen(randomReply(r), randomIgnored(r))
	}
	return api.Seen{Status: randomNumber(r), Fields: randomFields(r), Size: randomNumber(r), Sum: []byte(random(r, 100))}
}

// changedFields returns the fields with a change, which may mean nothing.
func changedFields(r *rand.Rand, l []api.Field) []api.Field {
	l = slices.Clone(l)
	at := r.Intn(len(l) + 1)
	switch {
	case at == len(l) || r.Intn(4) == 0:
		return slices.Insert(l, at, pick(r, append(l, randomField(r))...))
	case r.Intn(3) == 0:
		return slices.Delete(l, at, at+1)
	case r.Intn(2) == 0:
		r.Shuffle(len(l), func(i, j int) { l[i], l[j] = l[j], l[i] })
	default:
		l[at] = api.Field{Name: pick(r, l[at].Name, recased(r, l[at].Name)), Value: randomField(r).Value}
	}
	return l
}

// changedBytes returns the bytes with a change.
func changedBytes(r *rand.Rand, b []byte) []byte {
	b = bytes.Clone(b)
	at := r.Intn(len(b) + 1)
	switch {
	case at == len(b) || r.Intn(8) == 0:
		return slices.Insert(b, at, byte(r.Intn(3)))
	case r.Intn(8) == 0:
		return slices.Delete(b, at, at+1)
	}
	b[at] ^= 1 << r.Intn(8)
	return b
}

// changed returns what is seen with a few changes, or with none.
func changed(r *rand.Rand, s api.Seen) api.Seen {
	for range r.Intn(3) {
		switch r.Intn(6) {
		case 0:
			s.Status = randomNumber(r)
		case 1:
			s.Size += r.Intn(3) - 1
		case 2:
			s.Sum = changedBytes(r, s.Sum)
		default:
			s.Fields = changedFields(r, s.Fields)
		}
	}
	return s
}

// P20.1

func TestSee(t *testing.T) {
	for _, x := range []struct {
		a      api.Reply
		ignore []string
		want   api.Seen
		sum    string
	}{
		{api.Reply{}, nil, api.Seen{}, sumOfNothing},
		{api.Reply{Body: []byte{}, Fields: []api.Field{}}, []string{}, api.Seen{}, sumOfNothing},
		{api.Reply{Status: 200, Reason: "OK", Minor: 1, Fields: of("X-B", "2", "x-a", "1", "X-B", "3"), Body: []byte("abc")}, nil,
			api.Seen{Status: 200, Fields: of("x-a", "1", "x-b", "2, 3"), Size: 3}, sumOfABC},

		// The fields of one hop, Via, Date and those to be ignored are not compared.
		{api.Reply{Status: 404, Fields: of("Content-Length", "3", "Via", "1", "Date", "2", "Connection", "X-C", "X-C", "3", "Server", "S", "B", "b"), Body: []byte("abc")},
			[]string{"SERVER", "none"}, api.Seen{Status: 404, Fields: of("b", "b"), Size: 3}, sumOfABC},
		{api.Reply{Fields: of("a", "1", "b", "2", "a, b", "3")}, []string{"A", "a"}, api.Seen{Fields: of("a, b", "3", "b", "2")}, sumOfNothing},
		{api.Reply{Fields: of("a", "1", "b", "2")}, []string{"a, b"}, api.Seen{Fields: of("a", "1", "b", "2")}, sumOfNothing},
		{api.Reply{Fields: of("", "1", "a", "2")}, []string{""}, api.Seen{Fields: of("a", "2")}, sumOfNothing},
		{api.Reply{Fields: of("a", "1", "b", "2")}, []string{"b", "a"}, api.Seen{}, sumOfNothing},
		{api.Reply{Fields: of("Content-Length", "5", "Via", "6", "DATE", "7")}, nil, api.Seen{}, sumOfNothing},

		// Replies that are not valid are seen as they are.
		{api.Reply{Status: -1, Reason: "\r\n", Minor: -7, Fields: of("a b", "\r\n", "\xff", "\x00"), Body: []byte("abc")}, nil,
			api.Seen{Status: -1, Fields: of("a b", "\r\n", "\xff", "\x00"), Size: 3}, sumOfABC},
		{api.Reply{Status: math.MaxInt, Fields: of("Content-Length", "2"), Body: []byte("abc")}, nil, api.Seen{Status: math.MaxInt, Size: 3}, sumOfABC},
		{api.Reply{Status: math.MinInt, Body: []byte{0}}, nil, api.Seen{Status: math.MinInt, Size: 1}, "6e340b9cffb37a989ca544e6bb780a2c78901d3fb33738768511a30617afa01d"},
		{api.Reply{Status: 204, Body: []byte("abc")}, nil, api.Seen{Status: 204, Size: 3}, sumOfABC},
	} {
		got := differ.See(x.a, x.ignore...)
		sum := hex.EncodeToString(got.Sum)
		if want := x.want; got.Status != want.Status || got.Size != want.Size || !slices.Equal(got.Fields, want.Fields) || sum != x.sum {
			t.Errorf("See(%#v, %q) = %#v, want %#v with the sum %s", x.a, x.ignore, got, want, x.sum)
		}
		checkSee(t, x.a, x.ignore...)
	}
}

// Every number as the status; the reason and the version are not seen.
func TestSeeStatus(t *testing.T) {
	for _, n := range numbers {
		checkSee(t, api.Reply{Status: n})
		checkSee(t, api.Reply{Status: 200, Minor: n, Reason: fmt.Sprint(n)})
	}
	for n := range 1100 {
		checkSee(t, api.Reply{Status: n, Body: []byte("abc")})
	}
}

// Bodies of every length below 300 and of every byte, and long ones.
func TestSeeBody(t *testing.T) {
	r := rand.New(rand.NewSource(1))
	for n := range 300 {
		for _, b := range []byte{0, 'a', 128, 255, byte(n)} {
			checkSee(t, api.Reply{Status: 200, Body: bytes.Repeat([]byte{b}, n)})
		}
		checkSee(t, api.Reply{Body: []byte(random(r, n))})
	}
	for i := range 256 {
		checkSee(t, api.Reply{Body: []byte{byte(i)}})
	}
	for _, n := range []int{1023, 1024, 65535, 65536, 65537, 1000000, 3000001} {
		checkSee(t, api.Reply{Body: bytes.Repeat([]byte("abcdefg"), n/7+1)[:n]})
	}
}

// All names that differ from one that is left out in a byte, and all names to be ignored.
func TestSeeNames(t *testing.T) {
	for _, name := range []string{"Via", "Date", "Content-Length", "Connection", "Transfer-Encoding", "X-A", ""} {
		for _, x := range edits(name) {
			checkSee(t, api.Reply{Status: 200, Fields: of("b", "1", x, "x-a", "X-A", "2", "Host", "3")})
			checkSee(t, api.Reply{Status: 200, Fields: of("b", "1", "X-A", "2", "Host", "3", "", "4")}, "host", x)
		}
	}
}

// All lists of a few fields that matter.
func TestSeeLists(t *testing.T) {
	fields := of("X-A", "1", "x-a", "", "B", "2", "", "3", "\xff", "4", "Via", "5", "Connection", "b", "Content-Length", "6")
	for _, l := range lists(fields, 4) {
		checkSee(t, api.Reply{Status: 200, Fields: l})
		checkSee(t, api.Reply{Fields: l}, "x-A", "c")
	}
}

func TestSeeArbitraryReplies(t *testing.T) {
	r := rand.New(rand.NewSource(2))
	for range 30000 {
		checkSee(t, randomReply(r), randomIgnored(r)...)
	}
}

// P20.2

func TestCompare(t *testing.T) {
	sum := []byte(strings.Repeat("s", 32))
	base := api.Seen{Status: 200, Fields: of("a", "1", "b", "2"), Size: 3, Sum: sum}
	for _, x := range []struct {
		change func(s *api.Seen)
		want   api.Difference
	}{
		{func(s *api.Seen) {}, api.Difference{}},
		{func(s *api.Seen) { s.Status = 500 }, api.Difference{Status: true}},
		{func(s *api.Seen) { s.Size = 4 }, api.Difference{Body: true}},
		{func(s *api.Seen) { s.Size = -3 }, api.Difference{Body: true}},
		{func(s *api.Seen) { s.Sum = []byte(strings.Repeat("s", 31) + "S") }, api.Difference{Body: true}},
		{func(s *api.Seen) { s.Sum = []byte("S" + strings.Repeat("s", 31)) }, api.Difference{Body: true}},
		{func(s *api.Seen) { s.Size, s.Sum = 0, nil }, api.Difference{Body: true}},
		{func(s *api.Seen) { s.Status, s.Size = 201, 2 }, api.Difference{Status: true, Body: true}},
		{func(s *api.Seen) { *s = api.Seen{} }, api.Difference{Status: true, Body: true, Fields: []string{"a", "b"}}},

		// Sums of other lengths.
		{func(s *api.Seen) { s.Sum = nil }, api.Difference{Body: true}},
		{func(s *api.Seen) { s.Sum = sum[:31] }, api.Difference{Body: true}},
		{func(s *api.Seen) { s.Sum = append(slices.Clip(sum), 0) }, api.Difference{Body: true}},
		{func(s *api.Seen) { s.Sum = append(slices.Clip(sum), sum...) }, api.Difference{Body: true}},

		// Fields that only one has, and other values.
		{func(s *api.Seen) { s.Fields = nil }, api.Difference{Fields: []string{"a", "b"}}},
		{func(s *api.Seen) { s.Fields = of("a", "1") }, api.Difference{Fields: []string{"b"}}},
		{func(s *api.Seen) { s.Fields = of("b", "2") }, api.Difference{Fields: []string{"a"}}},
		{func(s *api.Seen) { s.Fields = of("c", "1") }, api.Difference{Fields: []string{"a", "b", "c"}}},
		{func(s *api.Seen) { s.Fields = of("a", "2", "b", "1") }, api.Difference{Fields: []string{"a", "b"}}},
		{func(s *api.Seen) { s.Fields = of("a", "1", "b", "2", "c", "") }, api.Difference{Fields: []string{"c"}}},
		{func(s *api.Seen) { s.Fields = of("a", "1", "b", "2", "", "") }, api.Difference{Fields: []string{""}}},
		{func(s *api.Seen) { s.Fields = of("a", "", "b", "2") }, api.Difference{Fields: []string{"a"}}},
		{func(s *api.Seen) { s.Fields = of("a", "1 ", "b", "2") }, api.Difference{Fields: []string{"a"}}},
		{func(s *api.Seen) { s.Fields = of("a", "2", "b", "2") }, api.Difference{Fields: []string{"a"}}},

		// The order is that of bytes, and does not depend on that of the lists.
		{func(s *api.Seen) { s.Fields = of("b", "2", "a", "1") }, api.Difference{}},
		{func(s *api.Seen) { s.Fields = of("c", "", "aa", "", "C", "", "", "", "\xff", "", "b", "2", "a", "1") },
			api.Difference{Fields: []string{"", "C", "aa", "c", "\xff"}}},
		{func(s *api.Seen) { s.Fields = of("b", "3", "aa", "1") }, api.Difference{Fields: []string{"a", "aa", "b"}}},

		// Names and values are compared byte by byte.
		{func(s *api.Seen) { s.Fields = of("A", "1", "b", "2") }, api.Difference{Fields: []string{"A", "a"}}},
		{func(s *api.Seen) { s.Fields = of("a ", "1", "b", "2") }, api.Difference{Fields: []string{"a", "a "}}},
		{func(s *api.Seen) { s.Fields = of("a", "01", "b", "2") }, api.Difference{Fields: []string{"a"}}},

		// The first field of a name counts.
		{func(s *api.Seen) { s.Fields = of("a", "1", "a", "2", "b", "2") }, api.Difference{}},
		{func(s *api.Seen) { s.Fields = of("a", "1", "b", "2", "b", "3", "a", "3") }, api.Difference{}},
		{func(s *api.Seen) { s.Fields = of("a", "2", "a", "1", "b", "2") }, api.Difference{Fields: []string{"a"}}},
		{func(s *api.Seen) { s.Fields = of("a", "2", "a", "2", "b", "2", "a", "1") }, api.Difference{Fields: []string{"a"}}},
		{func(s *api.Seen) { s.Fields = of("c", "1", "a", "1", "c", "2", "b", "2") }, api.Difference{Fields: []string{"c"}}},
		{func(s *api.Seen) { s.Fields = of("a", "", "a", "1", "b", "2") }, api.Difference{Fields: []string{"a"}}},

		// Here nothing is left out.
		{func(s *api.Seen) { s.Fields = of("a", "1", "b", "2", "via", "3", "Date", "4", "connection", "a") },
			api.Difference{Fields: []string{"Date", "connection", "via"}}},
	} {
		other := base
		x.change(&other)
		for _, pair := range [][2]api.Seen{{base, other}, {other, base}} {
			if got := differ.Compare(pair[0], pair[1]); !equal(got, x.want) {
				t.Errorf("Compare(%#v, %#v) = %#v, want %#v", pair[0], pair[1], got, x.want)
			}
		}
		checkCompare(t, base, other)
	}
}

// The replies of the document's example, and others that differ in one part.
func TestCompareReplies(t *testing.T) {
	base := api.Reply{Status: 200, Reason: "OK", Minor: 1, Fields: of("X-A", "1", "X-B", "2", "Content-Length", "3"), Body: []byte("abc")}
	for _, x := range []struct {
		change func(a *api.Reply)
		want   api.Difference
	}{
		{func(a *api.Reply) { a.Status = 500 }, api.Difference{Status: true}},
		{func(a *api.Reply) { a.Reason, a.Minor = "Fine", 0 }, api.Difference{}},
		{func(a *api.Reply) { a.Body = []byte("abd") }, api.Difference{Body: true}},
		{func(a *api.Reply) { a.Body = []byte("abc\x00") }, api.Difference{Body: true}},
		{func(a *api.Reply) { a.Body = nil }, api.Difference{Body: true}},
		{func(a *api.Reply) { a.Fields = of("x-b", "2", "x-A", "1", "Transfer-Encoding", "chunked") }, api.Difference{}},
		{func(a *api.Reply) { a.Fields = of("Date", "d", "x-a", "1", "Via", "v", "X-b", "2") }, api.Difference{}},
		{func(a *api.Reply) { a.Fields = of("X-A", "1", "X-B", "2", "Skip", "3") }, api.Difference{}},
		{func(a *api.Reply) { a.Fields = of("X-A", "1", "X-B", "2", "X-B", "") }, api.Difference{Fields: []string{"x-b"}}},
		{func(a *api.Reply) { a.Fields = of("X-A", "3", "x-c", "2") }, api.Difference{Fields: []string{"x-a", "x-b", "x-c"}}},
		{func(a *api.Reply) { a.Fields = of("X-A", "1", "X-B", "2", "connection", "x-a") }, api.Difference{Fields: []string{"x-a"}}},
		{func(a *api.Reply) { *a = api.Reply{} }, api.Difference{Status: true, Body: true, Fields: []string{"x-a", "x-b"}}},
	} {
		other := base
		x.change(&other)
		one, two := differ.See(base, "skip"), differ.See(other, "skip")
		if got := differ.Compare(one, two); !equal(got, x.want) {
			t.Errorf("%#v and %#v differ in %#v, want %#v", base, other, got, x.want)
		}
		checkCompare(t, one, two)
	}
}

// All pairs of numbers as statuses and as sizes.
func TestNumbers(t *testing.T) {
	for _, m := range numbers {
		for _, n := range numbers {
			checkCompare(t, api.Seen{Status: m}, api.Seen{Status: n})
			checkCompare(t, api.Seen{Size: m}, api.Seen{Size: n})
			checkCompare(t, api.Seen{Status: m, Size: n}, api.Seen{Status: n, Size: m})
		}
	}
}

// All sums that differ from one of every length in a bit, or in what is missing or added.
func TestSums(t *testing.T) {
	r := rand.New(rand.NewSource(3))
	for n := range 140 {
		sum := make([]byte, n)
		r.Read(sum)
		for i := range sum {
			for bit := range 8 {
				other := bytes.Clone(sum)
				other[i] ^= 1 << bit
				checkCompare(t, api.Seen{Sum: sum}, api.Seen{Sum: other})
			}
			checkCompare(t, api.Seen{Sum: sum}, api.Seen{Sum: sum[:i]})
			checkCompare(t, api.Seen{Sum: sum}, api.Seen{Sum: sum[i:]})
			checkCompare(t, api.Seen{Sum: sum}, api.Seen{Sum: slices.Concat(sum[i:], sum[:i])})
		}
		for m := range 140 {
			checkCompare(t, api.Seen{Sum: make([]byte, n)}, api.Seen{Sum: make([]byte, m)})
			checkCompare(t, api.Seen{Sum: sum}, api.Seen{Sum: slices.Concat(sum, make([]byte, m))})
			checkCompare(t, api.Seen{Sum: sum}, api.Seen{Sum: slices.Concat(make([]byte, m), sum)})
		}
	}
	for i := range 256 {
		for j := range 256 {
			checkCompare(t, api.Seen{Sum: []byte{byte(i)}}, api.Seen{Sum: []byte{byte(j)}})
		}
	}
}

// All pairs of lists of a few fields that matter.
func TestLists(t *testing.T) {
	for _, fields := range [][]api.Field{
		of("a", "1", "a", "2", "b", "1", "B", "", "", ""),
		of("a", "", "a", "1", "", "1", "via", "1"),
	} {
		all := lists(fields, 3)
		for _, l := range all {
			for _, m := range all {
				checkCompare(t, api.Seen{Fields: l}, api.Seen{Fields: m})
			}
		}
	}
}

// All names and values that differ in a byte.
func TestNamesAndValues(t *testing.T) {
	for _, s := range []string{"", "x-a", "Via", "\x00\xff"} {
		for _, x := range edits(s) {
			checkCompare(t, api.Seen{Fields: of(s, "1", "b", "2")}, api.Seen{Fields: of("b", "2", x, "1")})
			checkCompare(t, api.Seen{Fields: of("a", s, "b", "2")}, api.Seen{Fields: of("b", "2", "a", x)})
			checkCompare(t, api.Seen{Fields: of("a", s, "a", x)}, api.Seen{Fields: of("a", x, "a", s)})
			checkCompare(t, api.Seen{Fields: of(s, s)}, api.Seen{Fields: of(x, x, s, x)})
		}
	}
}

// The order of all names of one byte, and that of some that begin with others.
func TestOrder(t *testing.T) {
	all := allBytes()
	var l []api.Field
	var want []string
	for i := range all {
		l = append(l, api.Field{Name: all[i : i+1]})
		want = append(want, all[i:i+1])
		for j := range all {
			checkCompare(t, api.Seen{Fields: of(all[i:i+1], "")}, api.Seen{Fields: of(all[j:j+1], "")})
		}
	}
	r := rand.New(rand.NewSource(4))
	for range 50 {
		r.Shuffle(len(l), func(i, j int) { l[i], l[j] = l[j], l[i] })
		at := r.Intn(len(l))
		if got := differ.Compare(api.Seen{Fields: l[:at]}, api.Seen{Fields: l[at:]}); !slices.Equal(got.Fields, want) {
			t.Fatalf("the names of one byte are sorted as %q", got.Fields)
		}
	}
	names := []string{"", "X", "a", "a-", "a-b", "a0", "aa", "aaa", "ab", "b", "x1", "x10", "x9", "\xc3\xa4", "\xe4"}
	for range 500 {
		fields := make([]api.Field, len(names))
		for to, from := range r.Perm(len(names)) {
			fields[to].Name = names[from]
		}
		at := r.Intn(len(fields))
		if got := differ.Compare(api.Seen{Fields: fields[at:]}, api.Seen{Fields: fields[:at]}); !slices.Equal(got.Fields, names) {
			t.Fatalf("%q are sorted as %q", fields, got.Fields)
		}
	}
}

func TestSame(t *testing.T) {
	for _, x := range []struct {
		d    api.Difference
		want bool
	}{
		{api.Difference{}, true}, {api.Difference{Fields: []string{}}, true}, {api.Difference{Fields: make([]string, 0, 5)}, true},
		{api.Difference{Status: true}, false}, {api.Difference{Body: true}, false}, {api.Difference{Status: true, Body: true}, false},
		{api.Difference{Fields: []string{"a"}}, false}, {api.Difference{Fields: []string{""}}, false}, {api.Difference{Fields: []string{"b", "a", "a"}}, false},
		{api.Difference{Status: true, Fields: []string{}}, false}, {api.Difference{Body: true, Fields: []string{"a"}}, false},
		{api.Difference{Status: true, Body: true, Fields: []string{"a"}}, false},
	} {
		own := x.d
		var check func(*testing.T)
		own.Fields, check = guarded(x.d.Fields, behind)
		for range 2 {
			if got := differ.Same(own); got != x.want {
				t.Errorf("Same(%#v) = %v", x.d, got)
			}
			check(t)
		}
		if got := differ.Same(x.d); got != x.want {
			t.Errorf("Same(%#v) = %v", x.d, got)
		}
	}
}

func TestArbitrarySeen(t *testing.T) {
	r := rand.New(rand.NewSource(5))
	same, body, fields := 0, 0, 0
	for range 60000 {
		a := randomSeen(r)
		b := changed(r, a)
		checkCompare(t, a, b)
		checkCompare(t, a, randomSeen(r))
		switch d := wantDifference(a, b); {
		case isNothing(d):
			same++
		case isNothing(api.Difference{Status: d.Status, Fields: d.Fields}):
			body++
		case len(d.Fields) > 0:
			fields++
		}
	}
	if same < 10000 || body < 5000 || fields < 5000 {
		t.Errorf("only %d pairs are the same, %d differ in the body only, and %d in fields", same, body, fields)
	}
}

// Many fields and a long sum are treated as few are.
func TestManyFields(t *testing.T) {
	const n = 200000
	up, down, others := make([]api.Field, n), make([]api.Field, n), make([]api.Field, n)
	var names []string
	for i := range n {
		name := fmt.Sprintf("x-%06d", i)
		names = append(names, name)
		up[i] = api.Field{Name: name, Value: "1"}
		down[n-1-i] = up[i]
		others[n-1-i] = api.Field{Name: name, Value: "2"}
	}
	for _, x := range []struct {
		a, b []api.Field
		want []string
	}{
		{up, down, nil}, {up, others, names}, {nil, down, names}, {others, nil, names},
		{up[:n/2], others[:n/2], names}, {down[1:], up, names[n-1:]}, {slices.Concat(up, others), down, nil}, {slices.Concat(others, up), down, names},
	} {
		if got := differ.Compare(api.Seen{Fields: x.a}, api.Seen{Fields: x.b}); !equal(got, api.Difference{Fields: x.want}) {
			t.Errorf("of %d and %d fields %d differ, want %d", len(x.a), len(x.b), len(got.Fields), len(x.want))
		}
	}
	long := bytes.Repeat([]byte("abcde"), n)
	checkCompare(t, api.Seen{Sum: long}, api.Seen{Sum: bytes.Clone(long)})
	checkCompare(t, api.Seen{Sum: long}, api.Seen{Sum: append(long[:len(long)-1:len(long)-1], 'f')})
}

// P20.3

// Nothing differs from itself, also in the same memory.
func TestItself(t *testing.T) {
	r := rand.New(rand.NewSource(6))
	for range 30000 {
		a := randomSeen(r)
		if d := differ.Compare(a, a); !isNothing(d) || !differ.Same(d) {
			t.Fatalf("Compare of %#v with itself is %#v", a, d)
		}
		reply, ignore := randomReply(r), randomIgnored(r)
		if d := differ.Compare(differ.See(reply, ignore...), differ.See(reply, ignore...)); !isNothing(d) || !differ.Same(d) {
			t.Fatalf("%#v differs from itself in %#v", reply, d)
		}
	}
}

func TestBothOrders(t *testing.T) {
	r := rand.New(rand.NewSource(7))
	for range 30000 {
		a, other := randomSeen(r), randomSeen(r)
		for _, b := range []api.Seen{changed(r, a), other} {
			if one, two := differ.Compare(a, b), differ.Compare(b, a); !equal(one, two) || differ.Same(one) != differ.Same(two) {
				t.Fatalf("Compare(%#v, %#v) = %#v, but the other way round %#v", a, b, one, two)
			}
		}
	}
}

// Bodies of different lengths differ, also if one is a beginning of the other.
func TestBodiesOfDifferentLengths(t *testing.T) {
	long := []byte(strings.Repeat("\x00", 100) + strings.Repeat("\x80", 100))
	var seen []api.Seen
	for n := range len(long) + 1 {
		seen = append(seen, differ.See(api.Reply{Status: 200, Body: long[:n]}))
	}
	for m, a := range seen {
		for n, b := range seen {
			if d := differ.Compare(a, b); !equal(d, api.Difference{Body: m != n}) || differ.Same(d) != (m == n) {
				t.Fatalf("bodies of %d and %d bytes differ in %#v", m, n, d)
			}
		}
	}

	r := rand.New(rand.NewSource(8))
	for range 20000 {
		one, two := randomReply(r), randomReply(r)
		if len(one.Body) == len(two.Body) {
			continue
		}
		if r.Intn(2) == 0 {
			two.Status, two.Fields = one.Status, one.Fields
		}
		if d := differ.Compare(differ.See(one), differ.See(two)); !d.Body || differ.Same(d) {
			t.Fatalf("%#v and %#v differ in %#v", one, two, d)
		}
		// The sum alone would not tell.
		a, b := randomSeen(r), randomSeen(r)
		a.Size, b.Size, a.Sum = len(one.Body), len(two.Body), b.Sum
		if d := differ.Compare(a, b); !d.Body || differ.Same(d) {
			t.Fatalf("%#v and %#v differ in %#v", a, b, d)
		}
	}
}

// Replies are the same just if their statuses, their normalized fields and their bodies are.
func TestSameReplies(t *testing.T) {
	r := rand.New(rand.NewSource(9))
	same := 0
	for range 40000 {
		one, ignore := randomReply(r), randomIgnored(r)
		two := randomReply(r)
		if r.Intn(4) > 0 {
			two.Status = one.Status
		}
		if r.Intn(4) > 0 {
			two.Fields = one.Fields
			for range r.Intn(2) {
				two.Fields = changedFields(r, two.Fields)
			}
		}
		if r.Intn(4) > 0 {
			two.Body = one.Body
			for range r.Intn(2) {
				two.Body = changedBytes(r, two.Body)
			}
		}
		want := one.Status == two.Status && slices.Equal(normal.Fields(one.Fields, ignore...), normal.Fields(two.Fields, ignore...)) && bytes.Equal(one.Body, two.Body)
		d := differ.Compare(differ.See(one, ignore...), differ.See(two, ignore...))
		if differ.Same(d) != want {
			t.Fatalf("%#v and %#v differ in %#v, without %q", one, two, d, ignore)
		}
		if want {
			same++
		}
	}
	if same < 5000 {
		t.Errorf("only %d pairs are the same", same)
	}
}
