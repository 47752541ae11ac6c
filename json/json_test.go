package json_test

import (
	standard "encoding/json"
	"fmt"
	"math"
	"math/rand"
	"reflect"
	"slices"
	"strings"
	"testing"

	"canary/api"
	"canary/json"
)

// Each promise is checked on named cases, on every string of one and of two bytes, on every
// text that differs from one that matters in a single byte, on all short texts of the bytes
// that matter, on all escapes, and on arbitrary bytes, texts and values, those that a Quote
// returns and others, against an oracle that calls no other layer.

// samples are strings of all kinds of bytes, and strings that are like what is written for others.
var samples = []string{
	"", "a", "\"", "\\", "\\\\", "\"\"", "\\\"", "a\"b", "a\\b", "a\"\n", " ~", "/", "\x1f !#[]}~\x7f", "\x00", "\x00\xff", "\xff", "\x80\x9f\xa0",
	"u", "u00", "u0041", "\\u", "\\u0041", "\\u000a", "\\\\u000a", "\\n", "\n", "\r\n\t\b\f\v\a\x1b", "0123456789abcdef", "\x01\x23", "\x0a0a", "\x0aa",
	"\u00e9", "\u20ac", "\u2028\u2029", "\U0001f600", "\ufeff", "\ufffd", "\xc3", "\xed\xa0\x80", "\xf4\x90\x80\x80", "<script>&amp;'", "{\"a\":1}", "[1,2]", "null", "%s%d\\%s",
}

func allBytes() string {
	b := make([]byte, 256)
	for i := range b {
		b[i] = byte(i)
	}
	return string(b)
}

// edits returns the strings that differ from s in one byte that is missing,
// replaced or added, for every byte there is, and s.
func edits(s string) []string {
	all := allBytes()
	l := []string{s}
	for at := range len(s) + 1 {
		for i := range all {
			l = append(l, s[:at]+all[i:i+1]+s[at:])
			if at < len(s) {
				l = append(l, s[:at]+all[i:i+1]+s[at+1:])
			}
		}
		if at < len(s) {
			l = append(l, s[:at]+s[at+1:])
		}
	}
	return l
}

// words returns all strings of at most n bytes of the alphabet.
func words(alphabet string, n int) []string {
	l := []string{""}
	for first := 0; n > 0; n-- {
		last := len(l)
		for _, w := range l[first:last] {
			for i := range len(alphabet) {
				l = append(l, w+alphabet[i:i+1])
			}
		}
		first = last
	}
	return l
}

func pick[E any](r *rand.Rand, l ...E) E { return l[r.Intn(len(l))] }

func random(r *rand.Rand, most int) string {
	b := make([]byte, r.Intn(most+1))
	for i := range b {
		b[i] = byte(r.Intn(256))
	}
	return string(b)
}

// randomString returns a string: one of the samples, of arbitrary bytes, or of both.
func randomString(r *rand.Rand) string {
	s := ""
	for range r.Intn(4) {
		s += pick(r, pick(r, samples...), random(r, 6))
	}
	return s
}

// randomText returns a text that a Quote returns, that is nearly so, or of other parts.
func randomText(r *rand.Rand) string {
	s := wantQuote(randomString(r))
	switch r.Intn(4) {
	case 0:
		return s
	case 1:
		at := r.Intn(len(s) + 1)
		return s[:at] + pick(r, "\"", "\\", "\\u00", "\\u0041", "\\u000A", "\\n", "u", "0", " ", random(r, 2)) + s[min(len(s), at+r.Intn(3)):]
	case 2:
		return s[r.Intn(len(s)):] + s[:r.Intn(len(s)+1)]
	}
	s = "\""
	for range r.Intn(6) {
		s += pick(r, "a", "~", "\\\\", "\\\"", "\\u0000", "\\u00ff", fmt.Sprintf("\\u%04x", r.Intn(300)), pick(r, "\\", "\"", "\\u00", "\\u00A0", random(r, 3)))
	}
	return s + "\""
}

// P21.1

func TestQuote(t *testing.T) {
	for s, want := range map[string]string{
		"": `""`, "a": `"a"`, "a\"\n": `"a\"\u000a"`, "\"": `"\""`, "\\": `"\\"`, "\\\"": `"\\\""`, "\\\\": `"\\\\"`, "\"\"": `"\"\""`,
		" ": `" "`, "~": `"~"`, "\x1f": `"\u001f"`, "\x7f": `"\u007f"`, "\x80": `"\u0080"`, "\x00": `"\u0000"`, "\xff": `"\u00ff"`, "\xab": `"\u00ab"`,
		"\x09\x0a\x0b\x0c\x0d\x08": `"\u0009\u000a\u000b\u000c\u000d\u0008"`, "\x0f\x10": `"\u000f\u0010"`, "\x99\x9a\xa0\xf0": `"\u0099\u009a\u00a0\u00f0"`,
		"/": `"/"`, "'": `"'"`, "<&>": `"<&>"`, "\\u000a": `"\\u000a"`, "\\n": `"\\n"`, "u00": `"u00"`, "%d": `"%d"`,
		"\u00e9": `"\u00c3\u00a9"`, "\u20ac": `"\u00e2\u0082\u00ac"`, "\u2028": `"\u00e2\u0080\u00a8"`, "\xc3": `"\u00c3"`, "\ufffd": `"\u00ef\u00bf\u00bd"`,
		" !\"#[\\]~\x7f": `" !\"#[\\]~\u007f"`, "GET / HTTP/1.1\r\n": `"GET / HTTP/1.1\u000d\u000a"`,
		"{\"a\":[1]}": `"{\"a\":[1]}"`,
	} {
		if got := json.Quote(s); got != want {
			t.Errorf("Quote(%q) = %s, want %s", s, got, want)
		}
		if got, e := json.Unquote(want); got != s || e != api.OK {
			t.Errorf("Unquote(%s) = %q, %d, want %q", want, got, e, s)
		}
		checkQuote(t, s)
	}
	checkQuote(t, allBytes())
}

// What no Quote returns, though it may be a string in other notations.
func TestUnquoteSyntax(t *testing.T) {
	for _, s := range []string{
		// The marks at the two ends.
		"", `"`, `a`, `"a`, `a"`, `"""`, `""""`, `"" `, ` ""`, `""a`, `a""`, `"a"b"`, `"a" "b"`, `"a""b"`, `'a'`, "`a`", "\"a\"\n", "\n\"a\"", "\"a\"\x00", "\x00", "\u201ca\u201d", "\xef\xbb\xbf\"a\"",

		// A backslash with nothing behind it, or with what is not written behind one.
		`\`, `"\`, `"\"`, `"\\`, `"\\\"`, `"a\"`, `"\\"a"`, `"\\\"a`, `"\/"`, `"\a"`, `"\b"`, `"\f"`, `"\n"`, `"\r"`, `"\t"`, `"\v"`, `"\0"`, `"\'"`, `"\ "`, `"\x0a"`, `"\012"`, `"\U0000000a"`, "\"\\\n\"", "\"\\\x80\"",

		// Escapes that are not complete.
		`"\u`, `"\u"`, `"\u0"`, `"\u00"`, `"\u000"`, `"\u000`, `"\u00`, `"\u00\u000a"`, `"\u000"a"`, `"\u0\u000a"`, `"\u"000a"`, `"u000a`, `\u000a`, `\u000a"`, `"\u000a`,

		// Escapes of bytes that stand for themselves, or that have a backslash only.
		`"\u0020"`, `"\u0041"`, `"\u007e"`, `"\u0022"`, `"\u005c"`, `"\u0030"`, `"\u0061a"`,

		// Other digits.
		`"\u000A"`, `"\u00Ff"`, `"\u00fF"`, `"\u001F"`, `"\U000a"`, `"\u00zz"`, `"\u00g0"`, `"\u000g"`, `"\u00 a"`, `"\u00+a"`, `"\u00-1"`, `"\u000x"`, `"\u00_a"`, `"\u00\u00"`, "\"\\u00\x000\"",

		// Numbers that are no bytes.
		`"\u0100"`, `"\u010a"`, `"\u100a"`, `"\uff0a"`, `"\u0f0a"`, `"\u20ac"`, `"\ud83d\ude00"`, `"\uffff"`, `"\u{0a}"`, `"\u{a}"`,

		// Bytes that have an escape.
		"\"\n\"", "\"\x00\"", "\"\x1f\"", "\"\x7f\"", "\"\x80\"", "\"\xff\"", "\"\t\"", "\"\u00e9\"", "\"\\\\\x00\"", "\"a\x7fb\"", "\"\\u000a\n\"",

		// Other values.
		"0", "null", "{}", "[]", `{"a":1}`, `["a"]`, `("a")`, `"a",`, `"a"+"b"`,
	} {
		if got, e := json.Unquote(s); got != "" || e != api.ErrSyntax {
			t.Errorf("Unquote(%q) = %q, %d", s, got, e)
		}
		checkUnquote(t, s)
	}
}

// Every string of at most two bytes, also between others.
func TestShortStrings(t *testing.T) {
	for _, s := range words(allBytes(), 2) {
		checkQuote(t, s)
		if len(s) == 1 {
			for _, x := range []string{s + s + s, "a" + s, s + "a", "a" + s + "b", "\\" + s, s + "\\", "\"" + s + "\"", "\\u00" + s, s + "0a", "\x00" + s + "\xff"} {
				checkQuote(t, x)
			}
		}
	}
}

// The beginnings and the ends of a text are no texts, but for those that look like one.
func TestPartsOfTexts(t *testing.T) {
	for _, s := range samples {
		checkQuote(t, s)
		text := wantQuote(s)
		for i := range len(text) + 1 {
			checkUnquote(t, text[:i])
			checkUnquote(t, text[i:])
			checkUnquote(t, text[:i]+"\"")
			checkUnquote(t, "\""+text[i:])
			checkUnquote(t, text[i:]+text[:i])
		}
		checkUnquote(t, s)
		checkUnquote(t, "\""+s+"\"")
		checkUnquote(t, text+text)
		checkUnquote(t, wantQuote(text))
	}
}

// All texts that differ from one that matters in a byte.
func TestEditedTexts(t *testing.T) {
	for _, s := range []string{"", "a", "\"", "\\", "\n", "\xff", "a\"\nb\\\x80~", "\\u000a", "\\\n\"", "\x00\x1f\x7f"} {
		for _, x := range edits(wantQuote(s)) {
			checkUnquote(t, x)
			checkQuote(t, x)
		}
	}
}

// All short texts of the bytes that matter.
func TestShortTexts(t *testing.T) {
	for _, s := range slices.Concat(words("\"\\u0a", 6), words("\"\\u01fF ~\x1f\x7f\x80", 4)) {
		checkUnquote(t, s)
		checkUnquote(t, "\""+s+"\"")
	}
	for _, s := range words("\\u017fF2\"", 5) {
		checkUnquote(t, "\"\\"+s+"\"")
	}
}

// Every two bytes behind \u00, every four digits behind \u, and every byte behind a backslash.
func TestEscapes(t *testing.T) {
	for _, s := range words(allBytes(), 2) {
		checkUnquote(t, `"\u00`+s+`"`)
		checkUnquote(t, `"\`+s+`"`)
	}
	accepted := 0
	for n := range 1 << 16 {
		text := fmt.Sprintf(`"\u%04x"`, n)
		checkUnquote(t, text)
		checkUnquote(t, fmt.Sprintf(`"\u%04X"`, n))
		checkUnquote(t, fmt.Sprintf(`"\u%04xb\u0000"`, n))
		if _, e := json.Unquote(text); e == api.OK {
			accepted++
		}
	}
	if want := 256 - 95; accepted != want {
		t.Errorf("%d bytes have an escape, want %d", accepted, want)
	}
}

func TestArbitraryStrings(t *testing.T) {
	r := rand.New(rand.NewSource(1))
	for range 40000 {
		checkQuote(t, randomString(r))
		checkQuote(t, random(r, 40))
	}
}

func TestArbitraryTexts(t *testing.T) {
	r := rand.New(rand.NewSource(2))
	good, bad := 0, 0
	for range 100000 {
		s := randomText(r)
		checkUnquote(t, s)
		if _, e := wantUnquote(s); e == api.OK {
			good++
		} else {
			bad++
		}
		checkUnquote(t, random(r, 12))
		checkUnquote(t, "\""+random(r, 6)+"\"")
	}
	if good < 20000 || bad < 20000 {
		t.Errorf("only %d texts are accepted, or %d are not", good, bad)
	}
}

// Long strings and long texts are treated as short ones are, in a time that grows as they do.
func TestLong(t *testing.T) {
	const n = 1000000
	for s, want := range map[string]string{"a": "a", "\"": `\"`, "\\": `\\`, "\n": `\u000a`, "\xff": `\u00ff`} {
		long, text := strings.Repeat(s, n), `"`+strings.Repeat(want, n)+`"`
		if json.Quote(long) != text {
			t.Errorf("%q many times is not quoted", s)
		}
		if got, e := json.Unquote(text); got != long || e != api.OK {
			t.Errorf("%q many times is not read: %d bytes, %d", s, len(got), e)
		}
		for _, x := range []string{text[1:], text[:len(text)-1], text + `"`, text[:len(text)-1] + "\x00\"", text[:len(text)-1] + `\"`} {
			if got, e := json.Unquote(x); got != "" || e != api.ErrSyntax {
				t.Errorf("%q many times and a fault: %d bytes, %d", s, len(got), e)
			}
		}
	}
	for _, x := range []string{strings.Repeat(`"`, n), strings.Repeat(`\`, n), strings.Repeat(`\u00`, n), strings.Repeat("\x00", n), `"` + strings.Repeat("\\u000A", n) + `"`} {
		if got, e := json.Unquote(x); got != "" || e != api.ErrSyntax {
			t.Errorf("%q many times: %d bytes, %d", x[:10], len(got), e)
		}
	}
}

// P21.2

func TestNumber(t *testing.T) {
	for n, want := range map[int]string{
		0: "0", 1: "1", 9: "9", 10: "10", 99: "99", 100: "100", 101: "101", 1200: "1200", 65536: "65536", 1000000000: "1000000000", 1000001: "1000001",
		-1: "-1", -7: "-7", -9: "-9", -10: "-10", -11: "-11", -100: "-100", -1203: "-1203", -1000000000: "-1000000000",
		math.MaxInt32: "2147483647", math.MinInt32: "-2147483648", math.MaxInt: "9223372036854775807", math.MaxInt - 1: "9223372036854775806",
		math.MinInt: "-9223372036854775808", math.MinInt + 1: "-9223372036854775807", math.MinInt + 8: "-9223372036854775800",
	} {
		if got := json.Number(n); got != want {
			t.Errorf("Number(%d) = %q, want %q", n, got, want)
		}
		checkNumber(t, n)
	}
	for n := -20000; n <= 20000; n++ {
		checkNumber(t, n)
	}
	for _, base := range []int{2, 10} {
		for p := 1; ; p *= base {
			for more := -2; more <= 2; more++ {
				checkNumber(t, p+more)
				checkNumber(t, more-p)
			}
			if p > math.MaxInt/base {
				break
			}
		}
	}
	r := rand.New(rand.NewSource(3))
	for range 50000 {
		checkNumber(t, int(r.Uint64()))
		checkNumber(t, int(r.Uint64())>>r.Intn(64))
	}
	for n := range 100 {
		checkNumber(t, math.MaxInt-n)
		checkNumber(t, math.MinInt+n)
	}
}

// pairs makes pairs of names and values.
func pairs(l ...string) []api.Pair {
	var made []api.Pair
	for i := 0; i < len(l); i += 2 {
		made = append(made, api.Pair{Name: l[i], Value: l[i+1]})
	}
	return made
}

func TestObject(t *testing.T) {
	for _, x := range []struct {
		l    []api.Pair
		want string
	}{
		{nil, `{}`}, {[]api.Pair{}, `{}`}, {pairs("a", "1")[:0], `{}`},
		{pairs("a", "1"), `{"a":1}`}, {pairs("a", "1", "b", json.Quote("x")), `{"a":1,"b":"x"}`},
		{pairs("c", "1", "a", "2", "b", "3"), `{"c":1,"a":2,"b":3}`}, {pairs("a", "1", "a", "1", "a", "2"), `{"a":1,"a":1,"a":2}`},

		// The names are quoted.
		{pairs("", "0"), `{"":0}`}, {pairs("b\"", "1"), `{"b\"":1}`}, {pairs("\n\\", "1"), `{"\u000a\\":1}`}, {pairs("\xff:", "1"), `{"\u00ff:":1}`}, {pairs(`"a"`, `"a"`), `{"\"a\"":"a"}`}, {pairs("a,b", "1"), `{"a,b":1}`},

		// The values stay as they are, also those that are no JSON.
		{pairs("a", ""), `{"a":}`}, {pairs("a", "", "b", ""), `{"a":,"b":}`}, {pairs("", ""), `{"":}`}, {pairs("", "", "", ""), `{"":,"":}`},
		{pairs("a", " 1 ", "b", "x\"\\\n"), "{\"a\": 1 ,\"b\":x\"\\\n}"}, {pairs("a", "\x00\xff"), "{\"a\":\x00\xff}"}, {pairs("a", ",", "b", "}"), `{"a":,,"b":}}`}, {pairs("a", "%s\\u0041"), `{"a":%s\u0041}`},
		{pairs("a", "{}", "b", "[]", "c", "null"), `{"a":{},"b":[],"c":null}`},
	} {
		if got := json.Object(x.l...); got != x.want {
			t.Errorf("Object(%q) = %s, want %s", x.l, got, x.want)
		}
		checkObject(t, x.l...)
	}
	for _, s := range slices.Concat(edits(""), edits("ab"), samples) {
		checkObject(t, pairs(s, "1")...)
		checkObject(t, pairs("a", s)...)
		checkObject(t, pairs("a", "1", s, s, "b", s)...)
	}
}

func TestArray(t *testing.T) {
	for _, x := range []struct {
		l    []string
		want string
	}{
		{nil, `[]`}, {[]string{}, `[]`}, {[]string{"1"}[:0], `[]`},
		{[]string{"1"}, `[1]`}, {[]string{"1", "2"}, `[1,2]`}, {[]string{"1", json.Array(), "x"}, `[1,[],x]`}, {[]string{"3", "1", "2", "1", "1"}, `[3,1,2,1,1]`},
		{[]string{`"a"`, json.Quote("b\""), `{"a":1}`}, `["a","b\"",{"a":1}]`},

		// The values stay as they are, also those that are no JSON.
		{[]string{""}, `[]`}, {[]string{"", ""}, `[,]`}, {[]string{"", "", ""}, `[,,]`}, {[]string{"", "1", ""}, `[,1,]`},
		{[]string{" 1 ", "x\"\\\n"}, "[ 1 ,x\"\\\n]"}, {[]string{"\x00\xff"}, "[\x00\xff]"}, {[]string{",", "]"}, `[,,]]`}, {[]string{"%s", `\u0041`}, `[%s,\u0041]`},
	} {
		if got := json.Array(x.l...); got != x.want {
			t.Errorf("Array(%q) = %s, want %s", x.l, got, x.want)
		}
		checkArray(t, x.l...)
	}
	for _, s := range slices.Concat(edits(""), edits("ab"), samples) {
		checkArray(t, s)
		checkArray(t, "1", s, s)
		checkArray(t, s, "1")
	}
}

// Lists of every length, and long ones.
func TestLists(t *testing.T) {
	var members []api.Pair
	var values []string
	for i := range 300 {
		checkObject(t, members...)
		checkArray(t, values...)
		members = append(members, pairs(fmt.Sprint("n", i), fmt.Sprint(i))...)
		values = append(values, fmt.Sprint(i))
	}
	many := slices.Repeat([]string{"12", "", "x"}, 100000)
	checkArray(t, many...)
	checkObject(t, pairs(many...)...)
}

func TestArbitraryLists(t *testing.T) {
	r := rand.New(rand.NewSource(4))
	for range 30000 {
		members, values := make([]api.Pair, r.Intn(6)), make([]string, r.Intn(6))
		for i := range members {
			members[i] = api.Pair{Name: randomString(r), Value: pick(r, "1", "", randomString(r))}
		}
		for i := range values {
			values[i] = pick(r, "1", "", randomString(r))
		}
		checkObject(t, members...)
		checkArray(t, values...)
	}
}

// randomValue returns a JSON text that the functions wrote, and what the standard library reads it as.
func randomValue(r *rand.Rand, depth int) (string, any) {
	kinds := 4
	if depth == 0 {
		kinds = 2
	}
	switch r.Intn(kinds) {
	case 0:
		s := randomString(r)
		return json.Quote(s), wide(s)
	case 1:
		n := int(r.Uint64()) >> r.Intn(64)
		return json.Number(n), standard.Number(fmt.Sprint(n))
	case 2:
		l, want := []string(nil), []any{}
		for range r.Intn(5) {
			text, value := randomValue(r, depth-1)
			l, want = append(l, text), append(want, value)
		}
		return json.Array(l...), want
	}
	l, want := []api.Pair(nil), map[string]any{}
	for range r.Intn(5) {
		name := randomString(r)
		text, value := randomValue(r, depth-1)
		l, want[wide(name)] = append(l, api.Pair{Name: name, Value: text}), value
	}
	return json.Object(l...), want
}

// Values inside values are JSON, and are read as they were.
func TestValues(t *testing.T) {
	r := rand.New(rand.NewSource(5))
	for range 20000 {
		text, want := randomValue(r, 4)
		from := standard.NewDecoder(strings.NewReader(text))
		from.UseNumber()
		var got any
		if e := from.Decode(&got); e != nil || from.InputOffset() != int64(len(text)) {
			t.Fatalf("%s is no JSON: %v", text, e)
		}
		if !reflect.DeepEqual(got, want) {
			t.Fatalf("%s is read as %#v, want %#v", text, got, want)
		}
	}
}

// P21.3

// Every string is kept, however often it is quoted, and different ones have different texts.
func TestKept(t *testing.T) {
	r := rand.New(rand.NewSource(6))
	owners := map[string]string{}
	for range 30000 {
		s := pick(r, randomString(r), random(r, 3))
		text := json.Quote(s)
		if owner, known := owners[text]; known && owner != s {
			t.Fatalf("%s is the Quote of %q and of %q", text, owner, s)
		}
		owners[text] = s

		texts := []string{s}
		for range 4 {
			texts = append(texts, json.Quote(texts[len(texts)-1]))
		}
		for i := len(texts) - 1; i > 0; i-- {
			if got, e := json.Unquote(texts[i]); got != texts[i-1] || e != api.OK {
				t.Fatalf("Unquote(%q) = %q, %d, want %q", texts[i], got, e, texts[i-1])
			}
		}
	}
}

// What is accepted is the Quote of what it is read as, and nothing else that is read as the same is accepted.
func TestAcceptedTexts(t *testing.T) {
	r := rand.New(rand.NewSource(7))
	accepted, others := 0, 0
	for range 100000 {
		text := randomText(r)
		got, e := json.Unquote(text)
		if e == api.OK {
			accepted++
			if json.Quote(got) != text {
				t.Fatalf("%q is accepted, but is not the Quote of %q", text, got)
			}
			continue
		}
		if got != "" || e != api.ErrSyntax {
			t.Fatalf("Unquote(%q) = %q, %d", text, got, e)
		}
		// It may be JSON all the same, with a string of the same bytes.
		var read string
		if standard.Unmarshal([]byte(text), &read) == nil && strings.IndexFunc(read, func(c rune) bool { return c > 255 }) < 0 {
			others++
		}
	}
	if accepted < 20000 || others < 2000 {
		t.Errorf("only %d texts are accepted, or %d are JSON and are not", accepted, others)
	}
}
