package number_test

import (
	"math"
	"math/big"
	"math/rand"
	"slices"
	"strings"
	"testing"

	"canary/api"
	"canary/number"
)

// Each promise is checked on named cases, and against an oracle that computes
// with numbers of any size, on numbers around all powers of the bases, on every
// short string of the bytes at the borders of the digits, and on arbitrary bytes
// and numbers.

// numerals are the digits, each at its value; those of hexadecimal numbers may also be in upper case.
const numerals = "0123456789abcdef"

// edges are the bytes at the borders of the digits, and those that other notations of numbers have.
const edges = "\x00 +-./019:@AFGXZ_`afgxz\x7f\x80\xb9\xff"

// bases says by its functions what the two notations are.
var bases = []struct {
	base   int
	format func(int) string
	parse  func(string, int) (int, api.Errno)
}{
	{10, number.Decimal, number.ParseDecimal},
	{16, number.Hex, number.ParseHex},
}

// numbers returns the same numbers in every run, negative ones among them: small
// ones, those around the powers of 2, 10 and 16, the extremes, and arbitrary ones.
func numbers() []int {
	var l []int
	for n := -300; n <= 5000; n++ {
		l = append(l, n)
	}
	for _, base := range []int{2, 10} { // the powers of 16 are powers of 2
		for p := 1; ; p *= base {
			l = append(l, p-1, p, p+1, -p)
			if p > math.MaxInt/base {
				break
			}
		}
	}
	for n := range 20 {
		l = append(l, math.MaxInt-n, math.MinInt+n)
	}
	r := rand.New(rand.NewSource(2))
	for range 5000 {
		l = append(l, int(r.Uint64()), int(r.Uint64()>>r.Intn(64)))
	}
	return l
}

// limits are values of most that are near bounds of any kind.
var limits = []int{
	math.MinInt, -17, -1, 0, 1, 8, 9, 10, 15, 16, 17, 99, 255, 256, 1000,
	math.MaxInt32, math.MaxInt / 16, math.MaxInt/16 + 1, math.MaxInt / 10, math.MaxInt/10 + 1,
	math.MaxInt - 15, math.MaxInt - 8, math.MaxInt - 1, math.MaxInt,
}

func wantFormat(n, base int) string {
	if n < 0 {
		return ""
	}
	rest, b, d, s := big.NewInt(int64(n)), big.NewInt(int64(base)), new(big.Int), ""
	for s == "" || rest.Sign() > 0 {
		rest.QuoRem(rest, b, d)
		s = numerals[d.Int64():d.Int64()+1] + s
	}
	return s
}

func wantParse(s string, base, most int) (int, api.Errno) {
	n := new(big.Int)
	for i := range len(s) {
		c := s[i]
		if strings.IndexByte("ABCDEF", c) >= 0 {
			c += 32
		}
		d := strings.IndexByte(numerals[:base], c)
		if d < 0 {
			return 0, api.ErrSyntax
		}
		n.Mul(n, big.NewInt(int64(base))).Add(n, big.NewInt(int64(d)))
	}
	if s == "" {
		return 0, api.ErrSyntax
	}
	if n.Cmp(big.NewInt(int64(most))) > 0 {
		return 0, api.ErrLimit
	}
	return int(n.Int64()), api.OK
}

func wantAdd(most int, l ...int) int {
	if most < 0 {
		return 0
	}
	sum := new(big.Int)
	for _, n := range l {
		if n > 0 {
			sum.Add(sum, big.NewInt(int64(n)))
		}
	}
	if sum.Cmp(big.NewInt(int64(most))) > 0 {
		return most
	}
	return int(sum.Int64())
}

// checkParse compares both parsers with the oracle.
func checkParse(t *testing.T, s string, most int) {
	t.Helper()
	for _, b := range bases {
		got, err := b.parse(s, most)
		if want, wantErr := wantParse(s, b.base, most); got != want || err != wantErr {
			t.Fatalf("base %d: parsing %q with most %d gives %d and error %d, want %d and %d", b.base, s, most, got, err, want, wantErr)
		}
	}
}

// P2.1

func TestFormat(t *testing.T) {
	for _, x := range []struct {
		n        int
		dec, hex string
	}{
		{0, "0", "0"},
		{1, "1", "1"},
		{9, "9", "9"},
		{10, "10", "a"},
		{15, "15", "f"},
		{16, "16", "10"},
		{100, "100", "64"},
		{255, "255", "ff"},
		{256, "256", "100"},
		{11259375, "11259375", "abcdef"},
		{api.MaxLength, "1000000000", "3b9aca00"},
		{math.MaxInt64, "9223372036854775807", "7fffffffffffffff"},
		{-1, "", ""},
		{-255, "", ""},
		{math.MinInt64 + 1, "", ""},
		{math.MinInt64, "", ""},
	} {
		if dec, hex := number.Decimal(x.n), number.Hex(x.n); dec != x.dec || hex != x.hex {
			t.Errorf("%d is %q and %q, want %q and %q", x.n, dec, hex, x.dec, x.hex)
		}
	}
	for _, n := range numbers() {
		for _, b := range bases {
			if got, want := b.format(n), wantFormat(n, b.base); got != want {
				t.Fatalf("%d with base %d is %q, want %q", n, b.base, got, want)
			}
		}
	}
}

// P2.2

func TestParseDecimal(t *testing.T) {
	for _, x := range []struct {
		s    string
		most int
		want int
		err  api.Errno
	}{
		{"0", 0, 0, api.OK},
		{"00", 0, 0, api.OK},
		{"007", 7, 7, api.OK},
		{"10", 10, 10, api.OK},
		{"10", 9, 0, api.ErrLimit},
		{"9", 5, 0, api.ErrLimit},
		{"19", 18, 0, api.ErrLimit},
		{"1", 0, 0, api.ErrLimit},
		{"1234567890", math.MaxInt64, 1234567890, api.OK},
		{"0", -1, 0, api.ErrLimit},
		{"5", math.MinInt64, 0, api.ErrLimit},
		{"a", 100, 0, api.ErrSyntax},
		{"1f", 100, 0, api.ErrSyntax},
		{"9223372036854775807", math.MaxInt64, math.MaxInt64, api.OK},
		{"9223372036854775807", math.MaxInt64 - 1, 0, api.ErrLimit},
		{"9223372036854775808", math.MaxInt64, 0, api.ErrLimit},
		{"18446744073709551616", math.MaxInt64, 0, api.ErrLimit}, // 2^64, which wraps to 0
		{"18446744073709551621", 10, 0, api.ErrLimit},            // 2^64 + 5
	} {
		if got, err := number.ParseDecimal(x.s, x.most); got != x.want || err != x.err {
			t.Errorf("ParseDecimal(%q, %d) = %d, %d, want %d, %d", x.s, x.most, got, err, x.want, x.err)
		}
	}
}

func TestParseHex(t *testing.T) {
	for _, x := range []struct {
		s    string
		most int
		want int
		err  api.Errno
	}{
		{"0", 0, 0, api.OK},
		{"0F", 20, 15, api.OK},
		{"0f", 15, 15, api.OK},
		{"f", 14, 0, api.ErrLimit},
		{"10", 16, 16, api.OK},
		{"10", 15, 0, api.ErrLimit},
		{"000fF", 255, 255, api.OK},
		{"aBcDeF", math.MaxInt64, 11259375, api.OK},
		{"AbCdEf", math.MaxInt64, 11259375, api.OK},
		{"0", -1, 0, api.ErrLimit},
		{"f", math.MinInt64, 0, api.ErrLimit},
		{"g", 100, 0, api.ErrSyntax},
		{"G", 100, 0, api.ErrSyntax},
		{"0x1", 100, 0, api.ErrSyntax},
		{"0X1", 100, 0, api.ErrSyntax},
		{"7fffffffffffffff", math.MaxInt64, math.MaxInt64, api.OK},
		{"7FFFFFFFFFFFFFFF", math.MaxInt64 - 1, 0, api.ErrLimit},
		{"8000000000000000", math.MaxInt64, 0, api.ErrLimit},
		{"ffffffffffffffff", math.MaxInt64, 0, api.ErrLimit},
		{"10000000000000000", math.MaxInt64, 0, api.ErrLimit}, // 2^64, which wraps to 0
		{"10000000000000005", 10, 0, api.ErrLimit},            // 2^64 + 5
	} {
		if got, err := number.ParseHex(x.s, x.most); got != x.want || err != x.err {
			t.Errorf("ParseHex(%q, %d) = %d, %d, want %d, %d", x.s, x.most, got, err, x.want, x.err)
		}
	}
}

// What other notations allow is no number here, and a string that is no number is
// an error of syntax even if the limit is negative or the digits exceed it.
func TestParseSyntax(t *testing.T) {
	long := strings.Repeat("9", 100)
	for _, s := range []string{
		"", "-", "+", "-1", "+1", "-0", " 1", "1 ", "1\n", "\t1", "1\x00", "\x001",
		"1 2", "1,2", "1.0", "1e+3", "1_0", "0x", "0b1.", "0o7", "#1", "1h", "1;",
		"\u0661", "\uff11", "\u00b2", "1\u0661", "\xff", "1\x80", "\xb1",
		long + "g", "g" + long, long + "-", long + " ",
	} {
		for _, b := range bases {
			for _, most := range limits {
				if got, err := b.parse(s, most); got != 0 || err != api.ErrSyntax {
					t.Errorf("base %d: parsing %q with most %d gives %d and error %d", b.base, s, most, got, err)
				}
			}
		}
	}
}

// Each byte counts, wherever it stands.
func TestParseAllBytes(t *testing.T) {
	for i := range 256 {
		c := string([]byte{byte(i)})
		for _, s := range []string{c, c + "00", "0" + c + "0", "00" + c, c + c, "1" + c + "2"} {
			for _, most := range limits {
				checkParse(t, s, most)
			}
		}
	}
}

func TestParseShortStrings(t *testing.T) {
	l := []string{""}
	for first := 0; len(l[first]) < 3; first++ {
		for i := range len(edges) {
			l = append(l, l[first]+edges[i:i+1])
		}
	}
	for _, s := range l {
		for _, most := range []int{math.MinInt, -1, 0, 9, 15, 16, 100, 255, 4000, math.MaxInt} {
			checkParse(t, s, most)
		}
	}
}

// Numbers just below, at and above the limit, in all their notations.
func TestParseAroundLimit(t *testing.T) {
	for _, n := range numbers() {
		for _, b := range bases {
			s := wantFormat(n, b.base)
			for _, s := range []string{s, "0" + s, strings.Repeat("0", 40) + s, strings.ToUpper(s)} {
				for _, most := range []int{n - 1, n, n + 1, -1, 0, math.MaxInt} { // n - 1 and n + 1 may wrap, which makes other limits
					checkParse(t, s, most)
				}
			}
		}
	}
}

// Numbers that do not fit into an int, by a little and by far: none comes back wrapped.
func TestParseGreat(t *testing.T) {
	for _, base := range []int{10, 16} {
		for bit := 60; bit <= 130; bit++ {
			for d := int64(-20); d <= 20; d++ {
				n := new(big.Int).Lsh(big.NewInt(1), uint(bit))
				s := n.Add(n, big.NewInt(d)).Text(base)
				for _, most := range limits {
					checkParse(t, s, most)
				}
			}
		}
	}
	for _, s := range []string{strings.Repeat("9", 10000), strings.Repeat("f", 10000), "1" + strings.Repeat("0", 10000)} {
		for _, most := range limits {
			checkParse(t, s, most)
		}
	}
	zeros := strings.Repeat("0", 10000)
	checkParse(t, zeros, 0)
	checkParse(t, zeros+"12", 12)
	checkParse(t, zeros+"12", 11)
}

func TestParseArbitraryBytes(t *testing.T) {
	all := make([]byte, 256)
	for i := range all {
		all[i] = byte(i)
	}
	alphabets := []string{string(all), edges, numerals + "ABCDEF", numerals[:10], numerals + "g"}
	r := rand.New(rand.NewSource(3))
	for range 20000 {
		alphabet := alphabets[r.Intn(len(alphabets))]
		b := make([]byte, r.Intn(25))
		for i := range b {
			b[i] = alphabet[r.Intn(len(alphabet))]
		}
		checkParse(t, string(b), int(r.Uint64()))
		checkParse(t, string(b), limits[r.Intn(len(limits))])
	}
}

// P2.3

func TestAdd(t *testing.T) {
	for _, x := range []struct {
		most int
		l    []int
		want int
	}{
		{10, nil, 0},
		{10, []int{}, 0},
		{0, nil, 0},
		{-1, nil, 0},
		{10, []int{7}, 7},
		{10, []int{11}, 10},
		{10, []int{-11}, 0},
		{10, []int{7, -3, 8}, 10},
		{15, []int{7, -3, 8}, 15},
		{16, []int{7, -3, 8}, 15},
		{10, []int{12, -5}, 10}, // a negative number takes nothing back
		{10, []int{-5, 12}, 10},
		{10, []int{10, 0}, 10},
		{10, []int{1, 2, 3, 4}, 10},
		{10, []int{1, 2, 3, 5}, 10},
		{11, []int{1, 2, 3, 4}, 10},
		{0, []int{0, 5, -5}, 0},
		{-1, []int{5}, 0},
		{-7, []int{-7, -3}, 0},
		{math.MinInt64, []int{math.MaxInt64}, 0},
		{math.MaxInt64, []int{math.MaxInt64}, math.MaxInt64},
		{math.MaxInt64, []int{math.MaxInt64, 1}, math.MaxInt64},
		{math.MaxInt64, []int{1, math.MaxInt64}, math.MaxInt64},
		{math.MaxInt64, []int{math.MaxInt64, math.MaxInt64, 2}, math.MaxInt64}, // the sum wraps to 0
		{math.MaxInt64, []int{math.MaxInt64 - 1, 1}, math.MaxInt64},
		{math.MaxInt64, []int{math.MaxInt64, math.MinInt64}, math.MaxInt64},
		{10, []int{math.MaxInt64, math.MaxInt64, 3}, 10}, // the sum wraps to 1
		{5, []int{math.MinInt64, math.MinInt64, 3}, 3},
	} {
		if got := number.Add(x.most, x.l...); got != x.want {
			t.Errorf("Add(%d, %d) = %d, want %d", x.most, x.l, got, x.want)
		}
	}
	if got := number.Add(10); got != 0 {
		t.Errorf("Add(10) = %d", got)
	}
	if got := number.Add(10, 7, -3, 8); got != 10 {
		t.Errorf("Add(10, 7, -3, 8) = %d", got)
	}
}

func TestAddAllLists(t *testing.T) {
	lists := [][]int{nil}
	for first := 0; len(lists[first]) < 3; first++ {
		for _, n := range []int{math.MinInt, -10, -1, 0, 1, 7, 10, math.MaxInt/2 + 1, math.MaxInt - 1, math.MaxInt} {
			lists = append(lists, append(slices.Clone(lists[first]), n))
		}
	}
	for _, l := range lists {
		for _, most := range limits {
			if got, want := number.Add(most, l...), wantAdd(most, l...); got != want {
				t.Fatalf("Add(%d, %d) = %d, want %d", most, l, got, want)
			}
		}
	}
}

func TestAddArbitraryNumbers(t *testing.T) {
	r := rand.New(rand.NewSource(4))
	for range 50000 {
		l := make([]int, r.Intn(12))
		shift := r.Intn(64)
		for i := range l {
			l[i] = int(r.Uint64()>>shift) >> r.Intn(4)
			if r.Intn(4) == 0 {
				l[i] = -l[i]
			}
		}
		most := int(r.Uint64() >> max(0, shift-2))
		if got, want := number.Add(most, l...), wantAdd(most, l...); got != want {
			t.Fatalf("Add(%d, %d) = %d, want %d", most, l, got, want)
		}
	}
}

// The general rule R2: the argument stays as it is.
func TestAddLeavesItsArgument(t *testing.T) {
	l := []int{7, -3, 8, math.MinInt, math.MaxInt}
	number.Add(10, l...)
	number.Add(math.MaxInt, l...)
	number.Add(-1, l...)
	if !slices.Equal(l, []int{7, -3, 8, math.MinInt, math.MaxInt}) {
		t.Errorf("the argument is changed to %d", l)
	}
}

// P2.4

func TestParseOfFormat(t *testing.T) {
	for _, n := range numbers() {
		if n < 0 {
			continue
		}
		for _, b := range bases {
			if got, err := b.parse(b.format(n), n); got != n || err != api.OK {
				t.Fatalf("base %d: %d is written %q and read as %d with error %d", b.base, n, b.format(n), got, err)
			}
		}
	}
}
