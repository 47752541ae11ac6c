package ascii_test

import (
	"math/rand"
	"slices"
	"strings"
	"testing"

	"canary/ascii"
)

// Each promise is checked on named cases, and against an oracle that is written
// in another way than the package, on every string of few bytes and on long
// strings of arbitrary bytes.

const (
	letters = "ABCDEFGHIJKLMNOPQRSTUVWXYZabcdefghijklmnopqrstuvwxyz"
	digits  = "0123456789"
	marks   = "!#$%&'*+-.^_`|~"
)

// edges are the bytes at the borders of the classes, and the bytes of which lists are made.
const edges = "\x00\x08\x09\x0a\x0b\x0d\x1f\x20\x21,@AZ[`az{\x7e\x7f\x80\xc3\xff"

// samples returns the same strings in every run: all of at most two bytes, all
// of at most four bytes that matter to lists, all of three edges, and long ones.
func samples() []string {
	all := make([]byte, 256)
	for i := range all {
		all[i] = byte(i)
	}
	l := words(string(all), 2)
	l = append(l, words(" \t,aA\x80", 4)...)
	l = append(l, words(edges, 3)...)
	r := rand.New(rand.NewSource(1))
	for range 2000 {
		l = append(l, random(r, string(all)), random(r, edges), random(r, " \t,ab"))
	}
	return l
}

// words returns all strings of at most n bytes of the alphabet.
func words(alphabet string, n int) []string {
	l := []string{""}
	for first := 0; n > 0; n-- {
		last := len(l)
		for _, w := range l[first:last] {
			for i := range len(alphabet) {
				l = append(l, w+alphabet[i:i+1])
			}
		}
		first = last
	}
	return l
}

func random(r *rand.Rand, alphabet string) string {
	b := make([]byte, r.Intn(40))
	for i := range b {
		b[i] = alphabet[r.Intn(len(alphabet))]
	}
	return string(b)
}

func wantLower(s string) string {
	var b strings.Builder
	for i := range len(s) {
		if k := strings.IndexByte(letters[:26], s[i]); k >= 0 {
			b.WriteByte(letters[26+k])
		} else {
			b.WriteByte(s[i])
		}
	}
	return b.String()
}

func wantToken(s string) bool {
	for i := range len(s) {
		if strings.IndexByte(letters+digits+marks, s[i]) < 0 {
			return false
		}
	}
	return len(s) > 0
}

func blank(c byte) bool { return c == 9 || c == 32 }

func wantTrim(s string) string {
	for len(s) > 0 && blank(s[0]) {
		s = s[1:]
	}
	for len(s) > 0 && blank(s[len(s)-1]) {
		s = s[:len(s)-1]
	}
	return s
}

func wantValue(s string) bool {
	for i := range len(s) {
		if c := int(s[i]); c != 9 && (c < 32 || c > 126) && c < 128 {
			return false
		}
	}
	return len(s) == 0 || !blank(s[0]) && !blank(s[len(s)-1])
}

func wantList(l ...string) []string {
	var want []string
	for _, s := range l {
		for rest, more := s, true; more; {
			var part string
			part, rest, more = strings.Cut(rest, ",")
			if part = wantTrim(part); part != "" {
				want = append(want, part)
			}
		}
	}
	return want
}

// P1.1

func TestLower(t *testing.T) {
	for _, x := range []struct{ s, want string }{
		{"", ""},
		{"Content-Length", "content-length"},
		{letters[:26], letters[26:]},
		{letters[26:], letters[26:]},
		{"@AZ[`az{", "@az[`az{"},
		{"\x09\x1f\x20\x7e\x7f\x80\xff", "\x09\x1f\x20\x7e\x7f\x80\xff"},
		{"\xc1A\xda", "\xc1a\xda"},         // A and Z with the top bit set, not UTF-8
		{"\u00c4K\u212a", "\u00c4k\u212a"}, // letters beyond ASCII are not folded
	} {
		if got := ascii.Lower(x.s); got != x.want {
			t.Errorf("Lower(%q) = %q, want %q", x.s, got, x.want)
		}
	}
	for _, s := range samples() {
		if got, want := ascii.Lower(s), wantLower(s); got != want {
			t.Fatalf("Lower(%q) = %q, want %q", s, got, want)
		}
	}
}

func TestFold(t *testing.T) {
	for _, x := range []struct {
		a, b string
		want bool
	}{
		{"", "", true},
		{"", "a", false},
		{"Host", "hOST", true},
		{"host", "host", true},
		{"a", "ab", false},
		{"ab", "a", false},
		{"a", "a ", false},
		{"k", "\u212a", false},
		{"s", "\u017f", false},
		{"\u00c4", "\u00e4", false},
		{"\xff", "\xfe", false},
		{"\xff", "\ufffd", false},
		{"\x80Z", "\x80z", true},
	} {
		if ascii.Fold(x.a, x.b) != x.want || ascii.Fold(x.b, x.a) != x.want {
			t.Errorf("Fold(%q, %q) is not %v", x.a, x.b, x.want)
		}
	}
	pairs := words(edges, 2)
	for _, a := range pairs {
		for _, b := range pairs {
			if got, want := ascii.Fold(a, b), wantLower(a) == wantLower(b); got != want {
				t.Fatalf("Fold(%q, %q) = %v", a, b, got)
			}
		}
	}
}

// Bytes that differ in bit 32 only are one letter in two cases, or two other bytes.
func TestFoldOfAllBytes(t *testing.T) {
	for i := range 256 {
		for j := range 256 {
			a, b := string([]byte{byte(i)}), string([]byte{byte(j)})
			if got, want := ascii.Fold(a, b), wantLower(a) == wantLower(b); got != want {
				t.Errorf("Fold(%q, %q) = %v", a, b, got)
			}
		}
	}
}

// P1.2

func TestToken(t *testing.T) {
	for _, x := range []struct {
		s    string
		want bool
	}{
		{"", false},
		{"a", true},
		{"Content-Length", true},
		{letters + digits + marks, true},
		{"a b", false},
		{" a", false},
		{"a\t", false},
		{"a:", false},
		{"a,b", false},
		{"a/b", false},
		{"\"a\"", false},
		{"a\x00", false},
		{"a\x7f", false},
		{"\x80a", false},
		{"a\xff", false},
		{"\u00e4", false},
	} {
		if ascii.Token(x.s) != x.want {
			t.Errorf("Token(%q) is not %v", x.s, x.want)
		}
	}
	for _, s := range samples() {
		if got, want := ascii.Token(s), wantToken(s); got != want {
			t.Fatalf("Token(%q) = %v", s, got)
		}
	}
}

// Each byte counts, wherever it stands.
func TestTokenOfAllBytes(t *testing.T) {
	for i := range 256 {
		c := string([]byte{byte(i)})
		for _, s := range []string{c, c + "ab", "a" + c + "b", "ab" + c} {
			if got, want := ascii.Token(s), strings.Contains(letters+digits+marks, c); got != want {
				t.Errorf("Token(%q) = %v", s, got)
			}
		}
	}
}

func TestTrim(t *testing.T) {
	for _, x := range []struct{ s, want string }{
		{"", ""},
		{" ", ""},
		{"\t", ""},
		{" \t \t", ""},
		{"a", "a"},
		{" a", "a"},
		{"a\t", "a"},
		{" \ta b\t ", "a b"},
		{"\t \ta\t\tb \t ", "a\t\tb"},
		{"\na", "\na"},
		{"a\r\n", "a\r\n"},
		{" \na\r ", "\na\r"},
		{"\v\f\x00\x1f", "\v\f\x00\x1f"},
		{"\x7f \x80 \xff", "\x7f \x80 \xff"},
		{" \xff\t", "\xff"},
		{"\u00a0a\u2003", "\u00a0a\u2003"}, // blanks beyond ASCII stay
	} {
		if got := ascii.Trim(x.s); got != x.want {
			t.Errorf("Trim(%q) = %q, want %q", x.s, got, x.want)
		}
	}
	for _, s := range samples() {
		if got, want := ascii.Trim(s), wantTrim(s); got != want {
			t.Fatalf("Trim(%q) = %q, want %q", s, got, want)
		}
	}
}

// P1.3

func TestValue(t *testing.T) {
	for _, x := range []struct {
		s    string
		want bool
	}{
		{"", true},
		{"a", true},
		{"a b", true},
		{"a\tb", true},
		{" ", false},
		{"\t", false},
		{" a", false},
		{"\ta", false},
		{"a ", false},
		{"a\t", false},
		{" a ", false},
		{"!", true},
		{"~", true},
		{"\x80\xff", true},
		{"\u00e4 \u00a0", true}, // a blank beyond ASCII may stand at the end
		{"a\x00b", false},
		{"a\x08b", false},
		{"a\nb", false},
		{"a\r\nb", false},
		{"\x1f", false},
		{"a\x1fb", false},
		{"a\x7fb", false},
		{"\x7f", false},
	} {
		if ascii.Value(x.s) != x.want {
			t.Errorf("Value(%q) is not %v", x.s, x.want)
		}
	}
	for _, s := range samples() {
		if got, want := ascii.Value(s), wantValue(s); got != want {
			t.Fatalf("Value(%q) = %v", s, got)
		}
	}
}

// Each byte counts, wherever it stands.
func TestValueOfAllBytes(t *testing.T) {
	for i := range 256 {
		c := string([]byte{byte(i)})
		for _, s := range []string{c, c + "ab", "a" + c + "b", "ab" + c} {
			if got, want := ascii.Value(s), wantValue(s); got != want {
				t.Errorf("Value(%q) = %v", s, got)
			}
		}
	}
}

// P1.4

func TestList(t *testing.T) {
	for _, x := range []struct{ l, want []string }{
		{nil, nil},
		{[]string{}, nil},
		{[]string{""}, nil},
		{[]string{"", ""}, nil},
		{[]string{","}, nil},
		{[]string{"", " , ,", "\t,,\t"}, nil},
		{[]string{"a"}, []string{"a"}},
		{[]string{"a, b,, c", "d"}, []string{"a", "b", "c", "d"}},
		{[]string{",a"}, []string{"a"}},
		{[]string{"a,"}, []string{"a"}},
		{[]string{" \ta\t , b c\t"}, []string{"a", "b c"}},
		{[]string{"b", "", "a", "b"}, []string{"b", "a", "b"}},
		{[]string{"a\nb;c", "\"d,e\""}, []string{"a\nb;c", "\"d", "e\""}},
		{[]string{"\x1f\x7f,\x80 ,\xff", "\n"}, []string{"\x1f\x7f", "\x80", "\xff", "\n"}},
		{[]string{"A,a"}, []string{"A", "a"}},
	} {
		if got := ascii.List(x.l...); !slices.Equal(got, x.want) {
			t.Errorf("List(%q) = %q, want %q", x.l, got, x.want)
		}
	}
	all := samples()
	for i, s := range all {
		l := []string{s, all[len(all)-1-i], all[(7*i)%len(all)]}
		if got, want := ascii.List(l...), wantList(l...); !slices.Equal(got, want) {
			t.Fatalf("List(%q) = %q, want %q", l, got, want)
		}
		if got, want := ascii.List(s), wantList(s); !slices.Equal(got, want) {
			t.Fatalf("List(%q) = %q, want %q", s, got, want)
		}
	}
}

// The general rule R2: the argument stays as it is, and the result is new memory.
func TestListSharesNothing(t *testing.T) {
	l := []string{"a", "b"}
	first, second := ascii.List(l...), ascii.List(l...)
	first[0] = "x"
	_ = append(first[:1], "y")
	if !slices.Equal(l, []string{"a", "b"}) || !slices.Equal(second, []string{"a", "b"}) {
		t.Errorf("the argument is %q, another result %q", l, second)
	}
	spaced := []string{" a ,", ""}
	ascii.List(spaced...)
	if !slices.Equal(spaced, []string{" a ,", ""}) {
		t.Errorf("the argument is changed to %q", spaced)
	}
}

// P1.5

func TestTwiceIsOnce(t *testing.T) {
	for _, s := range samples() {
		if once := ascii.Lower(s); ascii.Lower(once) != once {
			t.Fatalf("Lower of Lower(%q) is %q", s, ascii.Lower(once))
		}
		if once := ascii.Trim(s); ascii.Trim(once) != once {
			t.Fatalf("Trim of Trim(%q) is %q", s, ascii.Trim(once))
		}
	}
}

func TestListOfJoined(t *testing.T) {
	all := samples()
	for i, s := range all {
		l := []string{s, all[len(all)-1-i], "", all[(11*i)%len(all)]}
		for n := range len(l) + 1 {
			got, want := ascii.List(l[:n]...), ascii.List(strings.Join(l[:n], ","))
			if !slices.Equal(got, want) {
				t.Fatalf("List(%q) = %q, but of the strings joined %q", l[:n], got, want)
			}
		}
	}
}
