package queue_test

import (
	"bytes"
	"math"
	"math/rand"
	"slices"
	"testing"

	"canary/api"
	"canary/queue"
)

// Each promise is checked on named cases, on all small queues, and on arbitrary
// ones, valid and others, against an oracle that moves single bytes.

// numbers has those around the limits, and others far from them.
var numbers = []int{
	math.MinInt, math.MinInt + 1, math.MinInt32, -api.MaxQueue, -2, -1, 0, 1, 2, 3, 4, 5, 64, 1000,
	api.MaxQueue - 1, api.MaxQueue, api.MaxQueue + 1, 2 * api.MaxQueue, math.MaxInt32, math.MaxInt32 + 1,
	math.MaxInt - 1, math.MaxInt,
}

// random returns n arbitrary bytes.
func random(r *rand.Rand, n int) []byte {
	b := make([]byte, n)
	for i := range b {
		b[i] = byte(r.Intn(256))
	}
	return b
}

// randomLists returns a few lists of arbitrary bytes; some are empty or nil.
func randomLists(r *rand.Rand) [][]byte {
	var l [][]byte
	for range r.Intn(5) {
		if r.Intn(5) == 0 {
			l = append(l, nil)
		}
		l = append(l, random(r, r.Intn(1+r.Intn(30))))
	}
	return l
}

// validQueues returns the same valid queues in every run: all sizes and fillings
// of small ones, arbitrary ones, and such as have the greatest size.
func validQueues() []api.Queue {
	r := rand.New(rand.NewSource(1))
	l := []api.Queue{{}, {Data: []byte{}}, {Cap: 5, Data: []byte{}}}
	for most := range 9 {
		for n := range most + 1 {
			l = append(l, api.Queue{Cap: most, Data: random(r, n)})
		}
	}
	for range 300 {
		n := r.Intn(100)
		l = append(l, api.Queue{Cap: n + r.Intn(50), Data: random(r, n)})
	}
	for _, n := range []int{0, 1, 5, api.MaxQueue - 5, api.MaxQueue - 1, api.MaxQueue} {
		l = append(l, api.Queue{Cap: api.MaxQueue, Data: random(r, n)})
	}
	return append(l, api.Queue{Cap: api.MaxQueue - 1, Data: random(r, api.MaxQueue-1)})
}

// invalidQueues returns queues with a size that is not allowed, and such as
// contain more bytes than their size.
func invalidQueues() []api.Queue {
	r := rand.New(rand.NewSource(2))
	var l []api.Queue
	for _, most := range numbers {
		if most < 0 || most > api.MaxQueue {
			l = append(l, api.Queue{Cap: most}, api.Queue{Cap: most, Data: []byte{}}, api.Queue{Cap: most, Data: []byte("abc")})
		}
	}
	for most := range 9 {
		for over := range 4 {
			l = append(l, api.Queue{Cap: most, Data: random(r, most+over+1)})
		}
	}
	for range 100 {
		n := 1 + r.Intn(100)
		l = append(l, api.Queue{Cap: r.Intn(n), Data: random(r, n)})
		l = append(l, api.Queue{Cap: -1 - r.Intn(100), Data: random(r, n)})
		l = append(l, api.Queue{Cap: api.MaxQueue + 1 + r.Intn(100), Data: random(r, n)})
	}
	return append(l,
		api.Queue{Cap: api.MaxQueue - 1, Data: random(r, api.MaxQueue)},
		api.Queue{Cap: api.MaxQueue, Data: random(r, api.MaxQueue+1)},
		api.Queue{Cap: api.MaxQueue + 1, Data: random(r, api.MaxQueue+1)})
}

func same(a, b api.Queue) bool {
	return a.Cap == b.Cap && bytes.Equal(a.Data, b.Data)
}

func clone(q api.Queue) api.Queue {
	q.Data = slices.Clone(q.Data)
	return q
}

// slowPut puts single bytes, as long as there is room for one.
func slowPut(q api.Queue, l [][]byte) (api.Queue, int) {
	taken := 0
	q = clone(q)
	for _, b := range l {
		for _, c := range b {
			if len(q.Data) < q.Cap {
				q.Data = append(q.Data, c)
				taken++
			}
		}
	}
	return q, taken
}

// slowTake takes single bytes, as long as there are any.
func slowTake(q api.Queue, n int) ([]byte, api.Queue) {
	var first []byte
	q = clone(q)
	for ; n > 0 && len(q.Data) > 0; n-- {
		first = append(first, q.Data[0])
		q.Data = q.Data[1:]
	}
	return first, q
}

// spoil overwrites a slice and its spare capacity.
func spoil(b []byte) {
	b = b[:cap(b)]
	for i := range b {
		b[i] ^= 255
	}
}

// P5.1

func TestNew(t *testing.T) {
	for _, x := range []struct{ most, want int }{
		{math.MinInt, 0}, {-api.MaxQueue, 0}, {-1, 0}, {0, 0}, {1, 1}, {2, 2}, {3, 3},
		{999999, 999999}, {1000000, 1000000}, {1000001, 1000000}, {math.MaxInt32, 1000000}, {math.MaxInt, 1000000},
	} {
		q := queue.New(x.most)
		if q.Cap != x.want || len(q.Data) != 0 {
			t.Errorf("New(%d) has the size %d and the bytes %q, want the size %d", x.most, q.Cap, q.Data, x.want)
		}
		if !queue.Valid(q) || queue.Room(q) != x.want {
			t.Errorf("New(%d): valid %v, room %d", x.most, queue.Valid(q), queue.Room(q))
		}
	}
}

func TestNewArbitrary(t *testing.T) {
	r := rand.New(rand.NewSource(3))
	for range 10000 {
		most := int(r.Uint64() >> r.Intn(64))
		if r.Intn(2) == 0 {
			most = -most
		}
		want := most
		if want < 0 {
			want = 0
		}
		if want > 1000000 {
			want = 1000000
		}
		if q := queue.New(most); q.Cap != want || len(q.Data) != 0 || !queue.Valid(q) {
			t.Fatalf("New(%d) = %v", most, q)
		}
	}
}

func TestValid(t *testing.T) {
	full := make([]byte, api.MaxQueue+1)
	for _, x := range []struct {
		most, n int
		want    bool
	}{
		{0, 0, true}, {0, 1, false}, {1, 0, true}, {1, 1, true}, {1, 2, false}, {3, 2, true}, {3, 3, true}, {3, 4, false},
		{-1, 0, false}, {-1, 1, false}, {math.MinInt, 0, false}, {math.MinInt, 5, false},
		{999999, 0, true}, {999999, 999999, true}, {999999, 1000000, false},
		{1000000, 0, true}, {1000000, 999999, true}, {1000000, 1000000, true}, {1000000, 1000001, false},
		{1000001, 0, false}, {1000001, 1000000, false}, {1000001, 1000001, false},
		{math.MaxInt32, 0, false}, {math.MaxInt, 0, false}, {math.MaxInt, 1, false},
	} {
		q := api.Queue{Cap: x.most, Data: full[:x.n]}
		if got := queue.Valid(q); got != x.want {
			t.Errorf("the size %d with %d bytes: valid %v, want %v", x.most, x.n, got, x.want)
		}
		room := 0
		if x.want {
			room = x.most - x.n
		}
		if got := queue.Room(q); got != room {
			t.Errorf("the size %d with %d bytes: room %d, want %d", x.most, x.n, got, room)
		}
	}
}

// What counts is the length, not the capacity, and no bytes are nil or empty.
func TestValidData(t *testing.T) {
	long := make([]byte, 3, 100)
	if q := (api.Queue{Cap: 3, Data: long}); !queue.Valid(q) || queue.Room(q) != 0 {
		t.Errorf("with spare capacity: valid %v, room %d", queue.Valid(q), queue.Room(q))
	}
	for _, data := range [][]byte{nil, {}} {
		if q := (api.Queue{Cap: 3, Data: data}); !queue.Valid(q) || queue.Room(q) != 3 {
			t.Errorf("with no bytes: valid %v, room %d", queue.Valid(q), queue.Room(q))
		}
	}
}

func TestSampleQueues(t *testing.T) {
	for _, q := range validQueues() {
		if !queue.Valid(q) || queue.Room(q) != q.Cap-len(q.Data) {
			t.Fatalf("the size %d with %d bytes: valid %v, room %d", q.Cap, len(q.Data), queue.Valid(q), queue.Room(q))
		}
	}
	for _, q := range invalidQueues() {
		if queue.Valid(q) || queue.Room(q) != 0 {
			t.Fatalf("the size %d with %d bytes: valid %v, room %d", q.Cap, len(q.Data), queue.Valid(q), queue.Room(q))
		}
	}
}

// P5.2

// The example of the chapter.
func TestExample(t *testing.T) {
	q, n := queue.Put(api.Queue{Cap: 3, Data: []byte("a")}, []byte("bcd"))
	if n != 2 || q.Cap != 3 || string(q.Data) != "abc" {
		t.Errorf("Put takes %d and returns %v", n, q)
	}
	first, rest := queue.Take(q, 2)
	if string(first) != "ab" || rest.Cap != 3 || string(rest.Data) != "c" {
		t.Errorf("Take returns %q and %v", first, rest)
	}
}

func TestPut(t *testing.T) {
	for _, x := range []struct {
		most  int
		data  string
		l     []string
		want  string
		taken int
	}{
		{0, "", nil, "", 0}, {0, "", []string{"a"}, "", 0}, {3, "", nil, "", 0}, {3, "ab", nil, "ab", 0},
		{3, "ab", []string{""}, "ab", 0}, {3, "ab", []string{"", "", ""}, "ab", 0},
		{3, "", []string{"a"}, "a", 1}, {3, "", []string{"abc"}, "abc", 3}, {3, "", []string{"abcd"}, "abc", 3},
		{3, "abc", []string{"d"}, "abc", 0}, {3, "ab", []string{"cd"}, "abc", 1}, {3, "ab", []string{"", "c", ""}, "abc", 1},
		{5, "a", []string{"b", "cd"}, "abcd", 3}, {5, "a", []string{"b", "cd", "ef"}, "abcde", 4},
		{5, "a", []string{"bcdef", "g"}, "abcde", 4}, {5, "a", []string{"bcde", "", "f"}, "abcde", 4},
		{4, "a", []string{"bcd", "", "e", "f"}, "abcd", 3}, {9, "\x00", []string{"\xff", "\x00\r\n"}, "\x00\xff\x00\r\n", 4},
	} {
		var l [][]byte
		for _, s := range x.l {
			l = append(l, []byte(s))
		}
		q, n := queue.Put(api.Queue{Cap: x.most, Data: []byte(x.data)}, l...)
		if q.Cap != x.most || string(q.Data) != x.want || n != x.taken {
			t.Errorf("Put(%q in %d, %q) = %v, %d, want %q, %d", x.data, x.most, x.l, q, n, x.want, x.taken)
		}
	}
}

// Every filling of small queues, with every division of what is put.
func TestPutSmall(t *testing.T) {
	whole := []byte("0123456789")
	for most := range 7 {
		for used := range most + 1 {
			for end := range len(whole) + 1 {
				for at := range end + 1 {
					q := api.Queue{Cap: most, Data: bytes.Repeat([]byte("x"), used)}
					l := [][]byte{whole[:at], whole[at:end]}
					got, n := queue.Put(q, l...)
					want, taken := slowPut(q, l)
					if !same(got, want) || n != taken {
						t.Fatalf("Put(%v, %q) = %v, %d, want %v, %d", q, l, got, n, want, taken)
					}
				}
			}
		}
	}
}

func TestPutArbitrary(t *testing.T) {
	r := rand.New(rand.NewSource(4))
	for _, q := range validQueues() {
		for range 10 {
			l := randomLists(r)
			got, n := queue.Put(q, l...)
			want, taken := slowPut(q, l)
			if !same(got, want) || n != taken {
				t.Fatalf("the size %d with %d bytes takes %d of %q, want %d", q.Cap, len(q.Data), n, l, taken)
			}
			if !queue.Valid(got) || queue.Room(got) != queue.Room(q)-n {
				t.Fatalf("the size %d with %d bytes, after %q: valid %v, room %d", q.Cap, len(q.Data), l, queue.Valid(got), queue.Room(got))
			}
		}
	}
}

func TestPutAllBytes(t *testing.T) {
	var all []byte
	for i := range 256 {
		all = append(all, byte(i))
	}
	q, n := queue.Put(queue.New(256), all)
	if n != 256 || !bytes.Equal(q.Data, all) {
		t.Errorf("%d bytes are taken: %q", n, q.Data)
	}
	if first, rest := queue.Take(q, 256); !bytes.Equal(first, all) || len(rest.Data) != 0 {
		t.Errorf("%q is taken, and %q stays", first, rest.Data)
	}
}

// The greatest queue takes no byte more, however many are put.
func TestPutGreat(t *testing.T) {
	b := random(rand.New(rand.NewSource(5)), 600000)
	for _, l := range [][][]byte{{b, b}, {b, b, b}, slices.Repeat([][]byte{b}, 4000)} {
		q, n := queue.Put(queue.New(math.MaxInt), l...)
		if n != 1000000 || q.Cap != 1000000 || !bytes.Equal(q.Data, slices.Concat(b, b[:400000])) {
			t.Errorf("of %d lists, %d bytes are taken", len(l), n)
		}
		if full, n := queue.Put(q, b); n != 0 || !same(full, q) {
			t.Errorf("a full queue takes %d bytes", n)
		}
	}
}

func TestTake(t *testing.T) {
	for _, x := range []struct {
		data        string
		n           int
		first, rest string
	}{
		{"", 0, "", ""}, {"", 1, "", ""}, {"", -1, "", ""}, {"", math.MaxInt, "", ""}, {"", math.MinInt, "", ""},
		{"abc", 0, "", "abc"}, {"abc", 1, "a", "bc"}, {"abc", 2, "ab", "c"}, {"abc", 3, "abc", ""},
		{"abc", 4, "abc", ""}, {"abc", 5, "abc", ""}, {"abc", 6, "abc", ""}, {"abc", math.MaxInt32, "abc", ""}, {"abc", math.MaxInt, "abc", ""},
		{"abc", -1, "", "abc"}, {"abc", -3, "", "abc"}, {"abc", math.MinInt32, "", "abc"}, {"abc", math.MinInt, "", "abc"},
		{"\x00\xff\n", 2, "\x00\xff", "\n"},
	} {
		q := api.Queue{Cap: 5, Data: []byte(x.data)}
		first, rest := queue.Take(q, x.n)
		if string(first) != x.first || rest.Cap != 5 || string(rest.Data) != x.rest {
			t.Errorf("Take(%q, %d) = %q, %v, want %q, %q", x.data, x.n, first, rest, x.first, x.rest)
		}
		if got := queue.Peek(q, x.n); string(got) != x.first {
			t.Errorf("Peek(%q, %d) = %q, want %q", x.data, x.n, got, x.first)
		}
	}
}

func TestTakeArbitrary(t *testing.T) {
	r := rand.New(rand.NewSource(6))
	for _, q := range validQueues() {
		l := append([]int{len(q.Data) - 1, len(q.Data), len(q.Data) + 1, q.Cap, q.Cap + 1, r.Intn(q.Cap + 1)}, numbers...)
		for _, n := range l {
			first, rest := queue.Take(q, n)
			wantFirst, wantRest := slowTake(q, n)
			if !bytes.Equal(first, wantFirst) || !same(rest, wantRest) {
				t.Fatalf("Take of %d from the size %d with %d bytes returns %d, and leaves %d", n, q.Cap, len(q.Data), len(first), len(rest.Data))
			}
			if !queue.Valid(rest) || queue.Room(rest) != queue.Room(q)+len(first) {
				t.Fatalf("Take of %d from the size %d with %d bytes: valid %v, room %d", n, q.Cap, len(q.Data), queue.Valid(rest), queue.Room(rest))
			}
			if got := queue.Peek(q, n); !bytes.Equal(got, first) {
				t.Fatalf("Peek of %d from the size %d with %d bytes returns %d", n, q.Cap, len(q.Data), len(got))
			}
		}
	}
}

func TestInvalid(t *testing.T) {
	r := rand.New(rand.NewSource(7))
	for _, q := range invalidQueues() {
		for _, l := range [][][]byte{nil, {nil}, {[]byte("x")}, {[]byte("x"), []byte("yz")}, randomLists(r)} {
			if got, n := queue.Put(q, l...); n != 0 || !same(got, q) {
				t.Fatalf("the size %d with %d bytes takes %d of %q", q.Cap, len(q.Data), n, l)
			}
		}
		for _, n := range append([]int{len(q.Data), q.Cap}, numbers...) {
			if first, rest := queue.Take(q, n); len(first) != 0 || !same(rest, q) {
				t.Fatalf("Take of %d from the size %d with %d bytes returns %q", n, q.Cap, len(q.Data), first)
			}
			if got := queue.Peek(q, n); len(got) != 0 {
				t.Fatalf("Peek of %d from the size %d with %d bytes returns %q", n, q.Cap, len(q.Data), got)
			}
		}
	}
}

// P5.3

// Whatever is put and taken, in whatever steps, comes out as it was put.
func TestOrder(t *testing.T) {
	r := rand.New(rand.NewSource(8))
	for _, most := range []int{0, 1, 2, 3, 5, 16, 100, 1000} {
		q := queue.New(most)
		var in, out []byte
		for range 2000 {
			b := slices.Concat(randomLists(r)...)
			at := r.Intn(len(b) + 1)
			next, n := queue.Put(q, b[:at], b[at:])
			in = append(in, b[:n]...)
			peeked := queue.Peek(next, r.Intn(40)-2)
			first, rest := queue.Take(next, r.Intn(40)-2)
			if both := min(len(peeked), len(first)); !bytes.Equal(peeked[:both], first[:both]) {
				t.Fatalf("%q is peeked, and %q taken", peeked, first)
			}
			out = append(out, first...)
			q = rest
			if !queue.Valid(q) || q.Cap != most || !bytes.Equal(slices.Concat(out, q.Data), in) {
				t.Fatalf("of %q, %q came out, and %q is left", in, out, q.Data)
			}
		}
		first, rest := queue.Take(q, most)
		if out = append(out, first...); len(rest.Data) != 0 || !bytes.Equal(out, in) {
			t.Fatalf("of %q, %q came out, and %q stays", in, out, rest.Data)
		}
	}
}

func TestTakeTwice(t *testing.T) {
	for _, q := range validQueues() {
		if len(q.Data) > 8 {
			continue
		}
		for n := range 12 {
			for m := range 12 {
				checkTwice(t, q, n, m)
			}
		}
	}
	r := rand.New(rand.NewSource(9))
	for _, q := range validQueues() {
		for range 5 {
			checkTwice(t, q, r.Intn(q.Cap+2), r.Intn(q.Cap+2))
		}
		checkTwice(t, q, len(q.Data), 1)
		checkTwice(t, q, 1, math.MaxInt-1)
		checkTwice(t, q, math.MaxInt-1, 1)
	}
	for _, q := range invalidQueues() {
		checkTwice(t, q, r.Intn(10), r.Intn(10))
	}
}

func checkTwice(t *testing.T, q api.Queue, n, m int) {
	t.Helper()
	first, rest := queue.Take(q, n)
	second, end := queue.Take(rest, m)
	both, want := queue.Take(q, n+m)
	if !bytes.Equal(slices.Concat(first, second), both) || !same(end, want) {
		t.Fatalf("the size %d with %d bytes: Take of %d and %d returns %d and %d bytes, and together %d", q.Cap, len(q.Data), n, m, len(first), len(second), len(both))
	}
}

// In how many steps bytes are put does not matter.
func TestPutTwice(t *testing.T) {
	r := rand.New(rand.NewSource(10))
	for _, q := range slices.Concat(validQueues(), invalidQueues()) {
		a, b := randomLists(r), randomLists(r)
		step, n := queue.Put(q, a...)
		end, m := queue.Put(step, b...)
		both, sum := queue.Put(q, slices.Concat(a, b)...)
		if !same(end, both) || n+m != sum {
			t.Fatalf("the size %d with %d bytes takes %d of %q and %d of %q, but together %d", q.Cap, len(q.Data), n, a, m, b, sum)
		}
	}
}

// The general rules.

// R2 and R3: the arguments stay as they are, and nothing is kept from call to call.
func TestArgumentsStay(t *testing.T) {
	r := rand.New(rand.NewSource(11))
	for _, q := range slices.Concat(validQueues(), invalidQueues()) {
		l := randomLists(r)
		n := r.Intn(len(q.Data) + 2)
		before := clone(q)
		var beforeL [][]byte
		for _, b := range l {
			beforeL = append(beforeL, slices.Clone(b))
		}
		put, taken := queue.Put(q, l...)
		first, rest := queue.Take(q, n)
		peeked := queue.Peek(q, n)
		if !same(q, before) || !slices.EqualFunc(l, beforeL, bytes.Equal) {
			t.Fatalf("the size %d with %d bytes, or %q, is changed", before.Cap, len(before.Data), beforeL)
		}
		putAgain, takenAgain := queue.Put(q, l...)
		firstAgain, restAgain := queue.Take(q, n)
		if !same(put, putAgain) || taken != takenAgain || !bytes.Equal(first, firstAgain) || !same(rest, restAgain) || !bytes.Equal(peeked, queue.Peek(q, n)) {
			t.Fatalf("the size %d with %d bytes: the second result differs", q.Cap, len(q.Data))
		}
	}
}

// R2: a result changes neither with the arguments nor with another result, even
// where bytes are written into spare capacity.
func TestResultsShareNothing(t *testing.T) {
	r := rand.New(rand.NewSource(12))
	for _, sample := range slices.Concat(validQueues(), invalidQueues()) {
		q, b := clone(sample), random(r, r.Intn(20))
		n := r.Intn(len(q.Data) + 2)
		put, _ := queue.Put(q, b)
		idle, _ := queue.Put(q)
		first, rest := queue.Take(q, n)
		peeked := queue.Peek(q, n)
		results := [][]byte{put.Data, idle.Data, first, rest.Data, peeked, q.Data, b}
		var want [][]byte
		for _, x := range results {
			want = append(want, slices.Clone(x))
		}
		for i, x := range results {
			spoil(x)
			for j := i + 1; j < len(results); j++ {
				if !bytes.Equal(results[j], want[j]) {
					t.Fatalf("the size %d with %d bytes, %d of them taken: %d and %d share memory", sample.Cap, len(sample.Data), n, i, j)
				}
			}
		}
	}
}

// R2: the bytes behind the end of a slice belong to its owner, and two ways on
// from one queue do not meet.
func TestSpareCapacityStays(t *testing.T) {
	whole := []byte("abcdefgh")
	q := api.Queue{Cap: 6, Data: whole[:3]}
	left, _ := queue.Put(q, []byte("XYZ"))
	right, _ := queue.Put(q, []byte("UVW"))
	if string(left.Data) != "abcXYZ" || string(right.Data) != "abcUVW" {
		t.Errorf("the queues are %q and %q", left.Data, right.Data)
	}
	started, _ := queue.Put(queue.New(9), []byte("a"))
	left, _ = queue.Put(started, []byte("bc"))
	right, _ = queue.Put(started, []byte("de"))
	if string(left.Data) != "abc" || string(right.Data) != "ade" {
		t.Errorf("the queues are %q and %q", left.Data, right.Data)
	}
	first, rest := queue.Take(q, 2)
	_ = append(first, "?"...)
	_ = append(queue.Peek(q, 2), "?"...)
	if string(rest.Data) != "c" || string(whole) != "abcdefgh" {
		t.Errorf("%q is left, of %q", rest.Data, whole)
	}
}
