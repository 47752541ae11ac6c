package digest_test

import (
	"bytes"
	"crypto/sha256"
	"encoding"
	"encoding/binary"
	"encoding/hex"
	"math"
	"math/big"
	"math/rand"
	"slices"
	"strings"
	"testing"

	"canary/api"
	"canary/digest"
)

// Each promise is checked on published values, and against the SHA-256 of the
// standard library, whose state between two writes can be read and set.

// mark stands before a state of the standard library.
const mark = "sha\x03"

// known are published digests, of the standard's examples and of NIST's lists.
var known = []struct{ s, want string }{
	{"", "e3b0c44298fc1c149afbf4c8996fb92427ae41e4649b934ca495991b7852b855"},
	{"abc", "ba7816bf8f01cfea414140de5dae2223b00361a396177a9cb410ff61f20015ad"},
	{"\xbd", "68325720aabd7c82f30f554b313d0570c95accbb7dc4b5aae11204c08ffe732b"},
	{"\xc9\x8c\x8e\x55", "7abc22c0ae5af26ce93dbb94433a0e0b2e119d014f8e7f65bd56c61ccccd9504"},
	{strings.Repeat("\x00", 55), "02779466cdec163811d078815c633f21901413081449002f24aa3e80f0b88ef7"},
	{strings.Repeat("\x00", 56), "d4817aa5497628e7c77e6b606107042bbba3130888c5f47a375e6179be789fbb"},
	{strings.Repeat("\x00", 57), "65a16cb7861335d5ace3c60718b5052e44660726da4cd13bb745381b235a1785"},
	{strings.Repeat("\x00", 64), "f5a5fd42d16a20302798ef6ed309979b43003d2320d9f0e8ea9831a92759fb4b"},
	{strings.Repeat("\x00", 1000), "541b3e9daa09b20bf85fa273e5cbd3e80185aa4ec298e765db87742b70138a53"},
	{"abcdbcdecdefdefgefghfghighijhijkijkljklmklmnlmnomnopnopq",
		"248d6a61d20638b8e5c026930c3e6039a33ce45964ff2167f6ecedd419db06c1"},
	{"abcdefghbcdefghicdefghijdefghijkefghijklfghijklmghijklmnhijklmnoijklmnopjklmnopqklmnopqrlmnopqrsmnopqrstnopqrstu",
		"cf5b16a778af8380036ce59e7b0492370b249b11e8f07a51afac45037afee9d1"},
	{strings.Repeat("a", 1000000), "cdc76e5c9914fb9281a1c7e284d73e67f1809a48a497200e046d39ccc7112cd0"},
}

// random returns n arbitrary bytes.
func random(r *rand.Rand, n int) []byte {
	b := make([]byte, n)
	for i := range b {
		b[i] = byte(r.Intn(256))
	}
	return b
}

// samples returns the same slices in every run: arbitrary and uniform bytes of
// every length up to more than four blocks, all single bytes, and long ones.
func samples() [][]byte {
	r := rand.New(rand.NewSource(1))
	var l [][]byte
	for n := range 300 {
		l = append(l, random(r, n), make([]byte, n), bytes.Repeat([]byte{255}, n), bytes.Repeat([]byte{128}, n))
	}
	for i := range 256 {
		l = append(l, []byte{byte(i)})
	}
	for _, n := range []int{511, 512, 513, 1023, 1024, 65535, 65536, 65537} {
		l = append(l, random(r, n))
	}
	for range 1000 {
		l = append(l, random(r, r.Intn(1000)))
	}
	return l
}

// pieces divides b at arbitrary places; some pieces are empty.
func pieces(r *rand.Rand, b []byte) [][]byte {
	var l [][]byte
	for len(b) > 0 {
		n := min(r.Intn(1+r.Intn(150)), len(b))
		l = append(l, b[:n])
		b = b[n:]
	}
	return append(l, b)
}

// stateOf reads the state of the standard library after the bytes of b.
func stateOf(t *testing.T, b []byte) api.Digest {
	t.Helper()
	h := sha256.New()
	h.Write(b)
	text, err := h.(encoding.BinaryMarshaler).MarshalBinary()
	if err != nil || len(text) != len(mark)+32+64+8 || string(text[:len(mark)]) != mark {
		t.Fatalf("the state of the standard library is %x (%v)", text, err)
	}
	text = text[len(mark):]
	var d api.Digest
	for i := range d.State {
		d.State[i] = binary.BigEndian.Uint32(text[4*i:])
	}
	d.Length = int(binary.BigEndian.Uint64(text[96:]))
	d.Tail = text[32 : 32+d.Length%64]
	return d
}

// librarySum sets the state of the standard library, and writes b to it.
func librarySum(t *testing.T, d api.Digest, b []byte) []byte {
	t.Helper()
	text := []byte(mark)
	for _, x := range d.State {
		text = binary.BigEndian.AppendUint32(text, x)
	}
	text = append(text, d.Tail...)
	text = append(text, make([]byte, 64-len(d.Tail))...)
	text = binary.BigEndian.AppendUint64(text, uint64(d.Length))
	h := sha256.New()
	if err := h.(encoding.BinaryUnmarshaler).UnmarshalBinary(text); err != nil {
		t.Fatal(err)
	}
	h.Write(b)
	return h.Sum(nil)
}

func same(a, b api.Digest) bool {
	return a.State == b.State && a.Length == b.Length && bytes.Equal(a.Tail, b.Tail)
}

func clone(d api.Digest) api.Digest {
	d.Tail = slices.Clone(d.Tail)
	return d
}

// P4.1

// The initial values are computed as the standard defines them: the first 32
// bits behind the point of the square roots of the first primes.
func TestStart(t *testing.T) {
	d := digest.Start()
	if d.Length != 0 || len(d.Tail) != 0 {
		t.Errorf("Start has the length %d and the tail %q", d.Length, d.Tail)
	}
	for i, prime := range []int64{2, 3, 5, 7, 11, 13, 17, 19} {
		root := new(big.Int).Lsh(big.NewInt(prime), 64)
		if want := uint32(root.Sqrt(root).Uint64()); d.State[i] != want {
			t.Errorf("State[%d] is %#x, want %#x", i, d.State[i], want)
		}
	}
	if want := stateOf(t, nil); !same(d, want) {
		t.Errorf("Start() = %v, want %v", d, want)
	}
}

func TestWriteState(t *testing.T) {
	for _, b := range samples() {
		want := stateOf(t, b)
		if got := digest.Write(digest.Start(), b); !same(got, want) {
			t.Fatalf("%d bytes (%q): %v, want %v", len(b), b, got, want)
		}
	}
}

// From any state, the next one has what the standard library says.
func TestWriteNextState(t *testing.T) {
	r := rand.New(rand.NewSource(2))
	for range 3000 {
		b := random(r, r.Intn(400))
		n := r.Intn(len(b) + 1)
		first := digest.Write(digest.Start(), b[:n])
		if want := stateOf(t, b[:n]); !same(first, want) {
			t.Fatalf("%d bytes: %v, want %v", n, first, want)
		}
		if got, want := digest.Write(first, b[n:]), stateOf(t, b); !same(got, want) {
			t.Fatalf("%d and then %d bytes: %v, want %v", n, len(b)-n, got, want)
		}
	}
}

// The bytes that do not fill a block wait in Tail, and change the state later.
func TestWriteAroundBlocks(t *testing.T) {
	b := random(rand.New(rand.NewSource(3)), 200)
	for _, n := range []int{0, 1, 54, 55, 56, 57, 62, 63, 64, 65, 119, 120, 127, 128, 129, 191, 192, 193} {
		d := digest.Write(digest.Start(), b[:n])
		if d.Length != n || !bytes.Equal(d.Tail, b[n/64*64:n]) {
			t.Errorf("%d bytes: the length is %d, and the tail %q", n, d.Length, d.Tail)
		}
		if full := digest.Write(digest.Start(), b[:n/64*64]); d.State != full.State {
			t.Errorf("%d bytes: the tail has changed the state", n)
		}
	}
}

func TestWriteNothing(t *testing.T) {
	for _, b := range samples() {
		d := digest.Write(digest.Start(), b)
		if got := digest.Write(d, nil); !same(got, d) {
			t.Fatalf("after %d bytes, nil gives %v, want %v", len(b), got, d)
		}
		if got := digest.Write(d, []byte{}); !same(got, d) {
			t.Fatalf("after %d bytes, no bytes give %v, want %v", len(b), got, d)
		}
	}
}

// P4.2

func TestKnown(t *testing.T) {
	for _, x := range known {
		if got := digest.Text(digest.Of([]byte(x.s))); got != x.want {
			t.Errorf("%d bytes: %s, want %s", len(x.s), got, x.want)
		}
		if got := digest.Text(digest.Sum(digest.Write(digest.Start(), []byte(x.s)))); got != x.want {
			t.Errorf("%d bytes, written: %s, want %s", len(x.s), got, x.want)
		}
	}
}

func TestSumSamples(t *testing.T) {
	for _, b := range samples() {
		want := sha256.Sum256(b)
		if got := digest.Sum(digest.Write(digest.Start(), b)); !bytes.Equal(got, want[:]) {
			t.Fatalf("%d bytes (%q): %x, want %x", len(b), b, got, want)
		}
		if got := digest.Of(b); !bytes.Equal(got, want[:]) {
			t.Fatalf("Of %d bytes (%q): %x, want %x", len(b), b, got, want)
		}
	}
}

// A sum is no end: more bytes can be written to the same state, and summed again.
func TestSumLeavesState(t *testing.T) {
	r := rand.New(rand.NewSource(4))
	for n := range 200 {
		b := random(r, n+r.Intn(100))
		d := digest.Write(digest.Start(), b[:n])
		before := clone(d)
		first := digest.Sum(d)
		if !same(d, before) {
			t.Fatalf("Sum after %d bytes changes %v to %v", n, before, d)
		}
		if again := digest.Sum(d); !bytes.Equal(first, again) {
			t.Fatalf("Sum after %d bytes is %x, and then %x", n, first, again)
		}
		want := sha256.Sum256(b)
		if got := digest.Sum(digest.Write(d, b[n:])); !bytes.Equal(got, want[:]) {
			t.Fatalf("Sum after %d bytes, and then %d more: %x, want %x", n, len(b)-n, got, want)
		}
	}
}

// The number of bits does not fit into 32 bits where it is written. So many
// bytes would take long: the standard library and the layer begin in their midst.
func TestSumGreatLengths(t *testing.T) {
	r := rand.New(rand.NewSource(5))
	for _, length := range []int{
		1<<29 - 1, 1 << 29, 1<<29 + 1, 1<<29 + 55, 1<<29 + 56, 1 << 30, 1<<30 + 63,
		math.MaxInt32 - 8, math.MaxInt32 - 7, math.MaxInt32 - 1, math.MaxInt32,
	} {
		d := api.Digest{Length: length, Tail: random(r, length%64)}
		for i := range d.State {
			d.State[i] = r.Uint32()
		}
		if got, want := digest.Sum(d), librarySum(t, d, nil); !bytes.Equal(got, want) {
			t.Errorf("after %d bytes: %x, want %x", length, got, want)
		}
		b := random(r, min(100, math.MaxInt32-length))
		if got, want := digest.Sum(digest.Write(d, b)), librarySum(t, d, b); !bytes.Equal(got, want) {
			t.Errorf("after %d and %d bytes: %x, want %x", length, len(b), got, want)
		}
	}
}

func TestOfSeveral(t *testing.T) {
	empty := digest.Sum(digest.Start())
	for _, l := range [][][]byte{nil, {}, {nil}, {{}}, {nil, {}, nil}} {
		if got := digest.Of(l...); !bytes.Equal(got, empty) {
			t.Errorf("Of(%q) = %x, want %x", l, got, empty)
		}
	}
	abc := known[1].want
	for _, l := range [][][]byte{
		{[]byte("abc")}, {[]byte("a"), []byte("bc")}, {[]byte("ab"), []byte("c")}, {[]byte("a"), []byte("b"), []byte("c")},
		{nil, []byte("abc")}, {[]byte("abc"), nil}, {[]byte("a"), {}, []byte("bc"), {}},
	} {
		if got := digest.Text(digest.Of(l...)); got != abc {
			t.Errorf("Of(%q) = %s, want %s", l, got, abc)
		}
	}
	if bytes.Equal(digest.Of([]byte("a"), []byte("b")), digest.Of([]byte("b"), []byte("a"))) {
		t.Error("Of does not depend on the order")
	}
}

func TestText(t *testing.T) {
	for _, x := range []struct {
		b    []byte
		want string
	}{
		{nil, ""},
		{[]byte{}, ""},
		{[]byte{0}, "00"},
		{[]byte{15}, "0f"},
		{[]byte{16}, "10"},
		{[]byte{255}, "ff"},
		{[]byte{0, 171}, "00ab"},
		{[]byte{0x01, 0x23, 0x45, 0x67, 0x89, 0xab, 0xcd, 0xef}, "0123456789abcdef"},
	} {
		if got := digest.Text(x.b); got != x.want {
			t.Errorf("Text(%v) = %q, want %q", x.b, got, x.want)
		}
	}
	for _, b := range samples() {
		if got, want := digest.Text(b), hex.EncodeToString(b); got != want {
			t.Fatalf("Text(%v) = %q, want %q", b, got, want)
		}
	}
}

// P4.3

func TestEveryDivision(t *testing.T) {
	r := rand.New(rand.NewSource(6))
	for _, n := range []int{0, 1, 2, 55, 56, 63, 64, 65, 119, 120, 127, 128, 129, 200} {
		b := random(r, n)
		whole := digest.Write(digest.Start(), b)
		want := sha256.Sum256(b)
		single := digest.Start()
		for at := range n + 1 {
			d := digest.Write(digest.Write(digest.Start(), b[:at]), b[at:])
			if !same(d, whole) || !bytes.Equal(digest.Sum(d), want[:]) {
				t.Fatalf("%d bytes divided at %d: %v, want %v", n, at, d, whole)
			}
			if got := digest.Of(b[:at], b[at:]); !bytes.Equal(got, want[:]) {
				t.Fatalf("Of %d bytes divided at %d: %x, want %x", n, at, got, want)
			}
			if at < n {
				single = digest.Write(single, b[at:at+1])
			}
		}
		if !same(single, whole) {
			t.Fatalf("%d bytes one by one: %v, want %v", n, single, whole)
		}
	}
}

func TestManyPieces(t *testing.T) {
	r := rand.New(rand.NewSource(7))
	for _, b := range samples() {
		l := pieces(r, b)
		want := sha256.Sum256(b)
		d := digest.Start()
		for _, piece := range l {
			d = digest.Write(d, piece)
		}
		if got := digest.Sum(d); !bytes.Equal(got, want[:]) {
			t.Fatalf("%d bytes in %d pieces: %x, want %x", len(b), len(l), got, want)
		}
		if got := digest.Of(l...); !bytes.Equal(got, want[:]) {
			t.Fatalf("Of %d bytes in %d pieces: %x, want %x", len(b), len(l), got, want)
		}
	}
}

// The general rules.

// R1: a state that no function returns gives no digest, but no panic either.
func TestStrangeStates(t *testing.T) {
	r := rand.New(rand.NewSource(8))
	for _, length := range []int{0, 1, 63, 64, -1, -64, math.MinInt, math.MaxInt} {
		for tail := range 260 {
			d := api.Digest{Length: length, Tail: random(r, tail)}
			for _, n := range []int{0, 1, 63, 64, 65, 200} {
				if got := digest.Sum(digest.Write(d, random(r, n))); len(got) != 32 {
					t.Fatalf("length %d, %d bytes of tail: a sum of %d bytes", length, tail, len(got))
				}
			}
			digest.Sum(d)
		}
	}
}

// R2 and R3: the arguments stay as they are, and nothing is kept from call to call.
func TestArgumentsStay(t *testing.T) {
	r := rand.New(rand.NewSource(9))
	for n := range 200 {
		d := digest.Write(digest.Start(), random(r, n))
		b := random(r, r.Intn(200))
		beforeD, beforeB := clone(d), slices.Clone(b)
		first := digest.Write(d, b)
		if !same(d, beforeD) || !bytes.Equal(b, beforeB) {
			t.Fatalf("Write changes %v and %q to %v and %q", beforeD, beforeB, d, b)
		}
		if again := digest.Write(d, b); !same(first, again) {
			t.Fatalf("Write(%v, %q) is %v, and then %v", d, b, first, again)
		}
		sum, text := digest.Of(b), digest.Text(b)
		if !bytes.Equal(b, beforeB) || !bytes.Equal(digest.Of(b), sum) || digest.Text(b) != text {
			t.Fatalf("Of or Text changes %q to %q, or its result", beforeB, b)
		}
	}
}

// R2: a result changes neither with the arguments nor with another result.
func TestResultsShareNothing(t *testing.T) {
	r := rand.New(rand.NewSource(10))
	for n := range 200 {
		d := digest.Write(digest.Start(), random(r, n))
		b := random(r, r.Intn(100))
		first, second, idle := digest.Write(d, b), digest.Write(d, b), digest.Write(d, nil)
		want, wantIdle := clone(first), clone(d)
		clear(b)
		clear(d.Tail)
		clear(second.Tail)
		if !same(first, want) || !same(idle, wantIdle) {
			t.Fatalf("a result after %d bytes has changed with something else", n)
		}
		sum := digest.Sum(first)
		wantSum := slices.Clone(sum)
		clear(digest.Sum(first))
		clear(digest.Of())
		if !bytes.Equal(sum, wantSum) || !bytes.Equal(digest.Sum(first), wantSum) {
			t.Fatalf("a sum after %d bytes has changed with another", n)
		}
	}
	if got := digest.Text(digest.Of()); got != known[0].want {
		t.Errorf("Of() has changed to %s", got)
	}
}

// R2: the bytes behind the end of a slice belong to its owner, and two ways on
// from one state do not meet.
func TestSpareCapacityStays(t *testing.T) {
	whole := []byte("abcdefgh")
	d := digest.Write(digest.Start(), whole[:3])
	d.Tail = whole[:3]
	left, right := digest.Write(d, []byte("XYZ")), digest.Write(d, []byte("UVW"))
	digest.Sum(d)
	if string(whole) != "abcdefgh" {
		t.Errorf("the bytes behind the tail are changed: %q", whole)
	}
	if string(left.Tail) != "abcXYZ" || string(right.Tail) != "abcUVW" {
		t.Errorf("the tails are %q and %q", left.Tail, right.Tail)
	}
	if digest.Text(digest.Of(whole[:3])) != known[1].want || string(whole) != "abcdefgh" {
		t.Errorf("Of is wrong, or leaves %q", whole)
	}
}
