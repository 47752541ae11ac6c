package hash_test

import (
	"bytes"
	"hash/fnv"
	"math"
	"math/big"
	"math/rand"
	"slices"
	"strings"
	"testing"

	"canary/hash"
)

// Each promise is checked on known values, and against two oracles: the hash of
// the standard library, which begins at Start only, and one that computes with
// numbers of any size and begins at any number.

// edges are the bytes at the borders of texts, of signs and of the byte itself.
const edges = "\x00\x01 a\x7f\x80\xfe\xff"

// starts are numbers at the borders of 64 bits, of the sign and of the halves.
var starts = []uint64{
	0, 1, 2, 255, 256, 14695981039346656037, 1099511628211,
	math.MaxInt32, math.MaxUint32, math.MaxUint32 + 1,
	math.MaxInt64, math.MaxInt64 + 1, math.MaxUint64 - 255, math.MaxUint64 - 1, math.MaxUint64,
}

// known are published values of FNV-1a with 64 bits, and that of the chapter.
var known = []struct {
	s    string
	want uint64
}{
	{"", 0xcbf29ce484222325},
	{"a", 12638187200555641996},
	{"a", 0xaf63dc4c8601ec8c},
	{"b", 0xaf63df4c8601f1a5},
	{"c", 0xaf63de4c8601eff2},
	{"d", 0xaf63d94c8601e773},
	{"fo", 0x08985907b541d342},
	{"foo", 0xdcb27518fed9d577},
	{"foob", 0xdd120e790c2512af},
	{"fooba", 0xcac165afa2fef40a},
	{"foobar", 0x85944171f73967e8},
	{"\x00", 0xaf63bd4c8601b7df},
	{"a\x00", 0x089be207b544f1e4},
	{"foobar\x00", 0x34531ca7168b8f38},
	{"hello", 0xa430d84680aabd0b},
}

// samples returns the same slices in every run: all of at most one byte, all of
// at most four edges, long ones of one byte, and arbitrary ones.
func samples() [][]byte {
	l := [][]byte{{}}
	for first := 0; len(l[first]) < 4; first++ {
		for i := range len(edges) {
			l = append(l, append(slices.Clone(l[first]), edges[i]))
		}
	}
	for i := range 256 {
		l = append(l, []byte{byte(i)})
	}
	for _, c := range []byte{0, 1, 'a', 128, 255} {
		for _, n := range []int{7, 8, 9, 63, 64, 65, 1000, 100000} {
			l = append(l, bytes.Repeat([]byte{c}, n))
		}
	}
	r := rand.New(rand.NewSource(1))
	for range 2000 {
		l = append(l, random(r, 60))
	}
	return append(l, random(r, 100000))
}

// random returns at most most arbitrary bytes.
func random(r *rand.Rand, most int) []byte {
	b := make([]byte, r.Intn(most+1))
	for i := range b {
		b[i] = byte(r.Intn(256))
	}
	return b
}

// lists returns the same lists in every run: all of at most three short strings,
// and arbitrary ones.
func lists() [][]string {
	l := [][]string{nil}
	for first := 0; len(l[first]) < 3; first++ {
		for _, s := range []string{"", "\x00", "a", "b", "ab", "a\x00", "\x00a", "\x00\x00", "\xff", "a b", "é"} {
			l = append(l, append(slices.Clone(l[first]), s))
		}
	}
	r := rand.New(rand.NewSource(2))
	for range 2000 {
		var strs []string
		for range r.Intn(8) {
			strs = append(strs, string(random(r, 20)))
		}
		l = append(l, strs)
	}
	return append(l, []string{strings.Repeat("a", 100000), "", strings.Repeat("\x00", 1000)}, make([]string, 1000))
}

// exactWrite reduces modulo 2^64 after each product, which is formed exactly.
func exactWrite(h uint64, b []byte) uint64 {
	modulus := new(big.Int).Lsh(big.NewInt(1), 64)
	factor := big.NewInt(1099511628211)
	n := new(big.Int).SetUint64(h)
	for _, c := range b {
		n.Xor(n, big.NewInt(int64(c)))
		n.Mod(n.Mul(n, factor), modulus)
	}
	return n.Uint64()
}

// libraryWrite is the hash of b alone.
func libraryWrite(b []byte) uint64 {
	h := fnv.New64a()
	h.Write(b)
	return h.Sum64()
}

// ended returns the strings of l, each with a byte 0 behind it.
func ended(l []string) []byte {
	var b bytes.Buffer
	for _, s := range l {
		b.WriteString(s)
		b.WriteByte(0)
	}
	return b.Bytes()
}

// P3.1

func TestStart(t *testing.T) {
	if got := hash.Start(); got != 14695981039346656037 {
		t.Errorf("Start() = %d", got)
	}
}

func TestWriteKnown(t *testing.T) {
	for _, x := range known {
		if got := hash.Write(hash.Start(), []byte(x.s)); got != x.want {
			t.Errorf("Write(Start(), %q) = %#x, want %#x", x.s, got, x.want)
		}
	}
}

func TestWriteNothing(t *testing.T) {
	for _, h := range starts {
		if got := hash.Write(h, nil); got != h {
			t.Errorf("Write(%d, nil) = %d", h, got)
		}
		if got := hash.Write(h, []byte{}); got != h {
			t.Errorf("Write(%d, {}) = %d", h, got)
		}
	}
}

// One byte, written out: the byte changes the lowest eight bits only, and first.
func TestWriteOneByte(t *testing.T) {
	for _, x := range []struct {
		h    uint64
		c    byte
		want uint64
	}{
		{0, 0, 0},
		{0, 1, 1099511628211},
		{1, 0, 1099511628211},
		{1, 1, 0},
		{2, 1, 3 * 1099511628211},
		{3, 1, 2 * 1099511628211},
		{0, 128, 128 * 1099511628211},
		{0, 255, 255 * 1099511628211},
		{255, 255, 0},
		{256, 0, 256 * 1099511628211},
		{1 << 63, 0, 1 << 63},
		{math.MaxUint64, 0, math.MaxUint64 - 1099511628210}, // -1 times the factor
		{math.MaxUint64, 255, math.MaxUint64 - 256*1099511628211 + 1},
	} {
		if got := hash.Write(x.h, []byte{x.c}); got != x.want {
			t.Errorf("Write(%d, {%d}) = %d, want %d", x.h, x.c, got, x.want)
		}
	}
}

func TestWriteAllBytes(t *testing.T) {
	for i := range 256 {
		for _, h := range starts {
			for _, b := range [][]byte{{byte(i)}, {byte(i), 0}, {0, byte(i)}, {'a', byte(i), 255}} {
				if got, want := hash.Write(h, b), exactWrite(h, b); got != want {
					t.Fatalf("Write(%d, %d) = %d, want %d", h, b, got, want)
				}
			}
		}
	}
}

func TestWriteSamples(t *testing.T) {
	r := rand.New(rand.NewSource(3))
	for _, b := range samples() {
		if got, want := hash.Write(hash.Start(), b), libraryWrite(b); got != want {
			t.Fatalf("Write(Start(), %q) = %d, want %d", b, got, want)
		}
		for _, h := range []uint64{starts[r.Intn(len(starts))], r.Uint64(), r.Uint64() >> r.Intn(64)} {
			if got, want := hash.Write(h, b), exactWrite(h, b); got != want {
				t.Fatalf("Write(%d, %q) = %d, want %d", h, b, got, want)
			}
		}
	}
}

// The order of the bytes matters.
func TestWriteOrder(t *testing.T) {
	if hash.Write(hash.Start(), []byte("ab")) == hash.Write(hash.Start(), []byte("ba")) {
		t.Error("ab and ba have the same hash")
	}
}

// P3.2

func TestSum(t *testing.T) {
	if got := hash.Sum(); got != hash.Start() {
		t.Errorf("Sum() = %d", got)
	}
	for _, x := range []struct {
		l    []string
		want uint64
	}{
		{nil, 14695981039346656037},
		{[]string{}, 14695981039346656037},
		{[]string{""}, 0xaf63bd4c8601b7df},
		{[]string{"", ""}, 0x08328807b4eb6fed},
		{[]string{"a"}, 0x089be207b544f1e4},
		{[]string{"foobar"}, 0x34531ca7168b8f38},
	} {
		if got := hash.Sum(x.l...); got != x.want {
			t.Errorf("Sum(%q) = %#x, want %#x", x.l, got, x.want)
		}
	}
}

func TestSumLists(t *testing.T) {
	for _, l := range lists() {
		b := ended(l)
		if got, want := hash.Sum(l...), libraryWrite(b); got != want {
			t.Fatalf("Sum(%q) = %d, want %d", l, got, want)
		}
		if got, want := hash.Sum(l...), hash.Write(hash.Start(), b); got != want {
			t.Fatalf("Sum(%q) = %d, but Write gives %d", l, got, want)
		}
	}
}

func TestSumAllBytes(t *testing.T) {
	for i := range 256 {
		c := string([]byte{byte(i)})
		for _, l := range [][]string{{c}, {c, ""}, {"", c}, {"a" + c, c + "b"}} {
			if got, want := hash.Sum(l...), libraryWrite(ended(l)); got != want {
				t.Fatalf("Sum(%q) = %d, want %d", l, got, want)
			}
		}
	}
}

// The byte 0 divides the strings, but a 0 within a string divides it as well.
func TestSumDivision(t *testing.T) {
	for _, x := range []struct {
		a, b []string
		same bool
	}{
		{[]string{"a", "bc"}, []string{"ab", "c"}, false},
		{[]string{"abc"}, []string{"ab", "c"}, false},
		{[]string{"abc", ""}, []string{"", "abc"}, false},
		{[]string{"abc"}, []string{"abc", ""}, false},
		{nil, []string{""}, false},
		{[]string{""}, []string{"", ""}, false},
		{[]string{"a", "b"}, []string{"b", "a"}, false},
		{[]string{"A"}, []string{"a"}, false},
		{[]string{"a\x00b"}, []string{"a", "b"}, true},
		{[]string{"\x00"}, []string{"", ""}, true},
	} {
		if got := hash.Sum(x.a...) == hash.Sum(x.b...); got != x.same {
			t.Errorf("Sum(%q) and Sum(%q) are equal: %v", x.a, x.b, got)
		}
	}
}

// P3.3

func TestWriteInTwoPieces(t *testing.T) {
	all := samples()
	for i, a := range all {
		b := all[(7*i+3)%len(all)]
		c := slices.Concat(a, b)
		for _, h := range []uint64{hash.Start(), starts[i%len(starts)]} {
			if got, want := hash.Write(hash.Write(h, a), b), hash.Write(h, c); got != want {
				t.Fatalf("from %d, %q and then %q give %d, and together %d", h, a, b, got, want)
			}
		}
	}
}

func TestWriteAtEveryDivision(t *testing.T) {
	r := rand.New(rand.NewSource(4))
	for range 200 {
		h, c := r.Uint64(), random(r, 100)
		want := hash.Write(h, c)
		single := h
		for n := range len(c) + 1 {
			if got := hash.Write(hash.Write(h, c[:n]), c[n:]); got != want {
				t.Fatalf("from %d, %q divided at %d gives %d, want %d", h, c, n, got, want)
			}
			if n < len(c) {
				single = hash.Write(single, c[n:n+1])
			}
		}
		if single != want {
			t.Fatalf("from %d, %q byte by byte gives %d, want %d", h, c, single, want)
		}
	}
}

// The general rules R2 and R3: the arguments stay as they are, and nothing is kept from call to call.

func TestArgumentsStay(t *testing.T) {
	for _, b := range samples() {
		before := slices.Clone(b)
		first := hash.Write(hash.Start(), b)
		if !bytes.Equal(b, before) {
			t.Fatalf("the argument %q is changed to %q", before, b)
		}
		if again := hash.Write(hash.Start(), b); again != first {
			t.Fatalf("Write(Start(), %q) is %d, and then %d", b, first, again)
		}
	}
	for _, l := range lists() {
		before := slices.Clone(l)
		first := hash.Sum(l...)
		if !slices.Equal(l, before) {
			t.Fatalf("the argument %q is changed to %q", before, l)
		}
		if again := hash.Sum(l...); again != first {
			t.Fatalf("Sum(%q) is %d, and then %d", l, first, again)
		}
	}
}

// The bytes behind the end of a slice belong to its owner.
func TestSpareCapacityStays(t *testing.T) {
	whole := []byte("abcdef")
	part := whole[:2]
	want := libraryWrite([]byte("ab"))
	if got := hash.Write(hash.Start(), part); got != want || string(whole) != "abcdef" {
		t.Errorf("Write gives %d, want %d, and leaves %q", got, want, whole)
	}
	strs := []string{"a", "b", "c"}
	if hash.Sum(strs[:1]...) != hash.Sum("a") || !slices.Equal(strs, []string{"a", "b", "c"}) {
		t.Errorf("Sum leaves %q", strs)
	}
}
