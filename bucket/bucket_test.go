package bucket_test

import (
	"math"
	"math/rand"
	"slices"
	"strings"
	"testing"

	"canary/api"
	"canary/bucket"
	"canary/cookie"
)

// Each promise is checked on values that were computed elsewhere, on numbers around the
// powers of 2 and 10 and at both ends of int, on every byte in salts and IDs, on every
// bucket with every weight, and on arbitrary bytes and numbers, also outside the limits,
// against an oracle that calls no other layer.

const anID = "0123456789abcdef"

// numbers returns the same numbers in every run: small ones, those around the powers of
// 2 and 10, those around the number of buckets, the extremes, and arbitrary ones.
func numbers() []int {
	l := []int{math.MinInt, math.MinInt + 1, math.MaxInt - 1, math.MaxInt}
	for n := -20; n <= 20; n++ {
		l = append(l, n, api.Buckets+n, -api.Buckets+n, 2*api.Buckets+n)
	}
	for _, base := range []int{2, 10} {
		for p := 1; ; p *= base {
			l = append(l, p-1, p, p+1, -p-1, -p, -p+1)
			if p > math.MaxInt/base {
				break
			}
		}
	}
	r := rand.New(rand.NewSource(1))
	for range 100 {
		l = append(l, int(r.Uint64()), int(r.Uint64()>>r.Intn(64)))
	}
	return l
}

// random returns at most most arbitrary bytes.
func random(r *rand.Rand, most int) string {
	b := make([]byte, r.Intn(most+1))
	for i := range b {
		b[i] = byte(r.Intn(256))
	}
	return string(b)
}

// P15.1

func TestKnownIDs(t *testing.T) {
	for _, x := range []struct {
		draw, serial int
		want         string
	}{
		{0, 0, "4db115fa3aa07d75"},
		{0, 1, "4dadaffa3a9d9a4c"},
		{1, 0, "acdce9f1e3b1f6a4"},
		{1, 1, "ace04ff1e3b4d9cd"},
		{5, 7, "2de383d08ba804bf"},
		{7, 5, "6d654fe137b1526f"},
		{1, 23, "7e049a05f0a89b29"},
		{12, 3, "4d6dca8754b07bd5"},
		{123, 4, "4958517dac05225d"},
		{math.MaxInt32, 1 << 31, "d4393ce71b5dc41e"},
		{1 << 32, math.MaxUint32, "03ec7df6b5243afe"},
		{1000000000, 1000000000, "9c1cb28c3f13a26f"},
		{math.MaxInt64, math.MaxInt64, "fb8d0bff431792bd"},
		{math.MaxInt64, 0, "4a19403d9726a769"},
		{0, math.MaxInt64, "857025f9e3428859"},
		// Zeros lead.
		{6, 1, "0e2517e98e8e864a"},
		{247, 1, "002a1abcc03c973d"},
		{7296, 1, "0003f210fcce8cb0"},
		{4648, 1, "000092e8d3679ab0"},
		// A negative number counts as 0, each for itself.
		{-1, 0, "4db115fa3aa07d75"},
		{0, -1, "4db115fa3aa07d75"},
		{-1, -1, "4db115fa3aa07d75"},
		{-5, -7, "4db115fa3aa07d75"},
		{math.MinInt64, math.MinInt64, "4db115fa3aa07d75"},
		{-1, 1, "4dadaffa3a9d9a4c"},
		{math.MinInt64, 1, "4dadaffa3a9d9a4c"},
		{1, -1, "acdce9f1e3b1f6a4"},
		{1, math.MinInt64, "acdce9f1e3b1f6a4"},
		{math.MaxInt64, -1, "4a19403d9726a769"},
		{-1, math.MaxInt64, "857025f9e3428859"},
	} {
		if got := bucket.NewID(x.draw, x.serial); got != x.want {
			t.Errorf("NewID(%d, %d) = %q, want %q", x.draw, x.serial, got, x.want)
		}
		checkID(t, x.draw, x.serial)
	}
}

func TestIDsOfNumbers(t *testing.T) {
	all := numbers()
	for _, draw := range all {
		for _, serial := range all {
			if got, want := bucket.NewID(draw, serial), wantID(draw, serial); got != want {
				t.Fatalf("NewID(%d, %d) = %q, want %q", draw, serial, got, want)
			}
		}
	}
	for draw := -100; draw < 300; draw++ {
		for serial := -10; serial < 100; serial++ {
			checkID(t, draw, serial)
		}
	}
}

func TestIDsOfArbitraryNumbers(t *testing.T) {
	r := rand.New(rand.NewSource(2))
	for range 50000 {
		checkID(t, int(r.Uint64()), int(r.Uint64()>>r.Intn(64)))
		checkID(t, int(r.Uint64()>>r.Intn(64)), int(r.Uint64()))
	}
}

// IDs with each number of leading zeros up to four are seen, and all of them may be cookies.
func TestIDsAreWhole(t *testing.T) {
	var seen [5]int
	for draw := range 300000 {
		id := bucket.NewID(draw, 1)
		if len(id) != 16 || strings.Trim(id, anID) != "" || !cookie.ID(id) {
			t.Fatalf("NewID(%d, 1) = %q", draw, id)
		}
		zeros := min(4, 16-len(strings.TrimLeft(id, "0")))
		if seen[zeros]++; zeros > 1 {
			checkID(t, draw, 1)
		}
	}
	if slices.Contains(seen[:], 0) {
		t.Errorf("numbers of IDs by their leading zeros: %d", seen)
	}
}

// The two numbers do not run into each other, and neither stands for the other.
func TestIDsDiffer(t *testing.T) {
	from := map[string][2]int{}
	for draw := range 300 {
		for serial := range 300 {
			id := bucket.NewID(draw, serial)
			if other, found := from[id]; found {
				t.Fatalf("NewID(%d, %d) = %q, as of %d", draw, serial, id, other)
			}
			from[id] = [2]int{draw, serial}
		}
	}
}

// P15.2

func TestKnownBuckets(t *testing.T) {
	for _, x := range []struct {
		salt, id string
		want     int
	}{
		{"", "", 3389},
		{"a", "", 4588},
		{"", "a", 8894},
		{"a", "bc", 9609},
		{"ab", "c", 3973},
		{"bc", "a", 6975},
		{"salt", "id", 3866},
		{"salt", anID, 6589},
		{"salt", "0123456789abcdee", 934},
		{"Salt", anID, 6477},
		{"salt ", anID, 9995},
		{"s", "0123456789ABCDEF", 7546},
		// A byte 0 divides as the end of a string does.
		{"\x00", "", 2279},
		{"", "\x00", 2279},
		{"\xff\xfe", "\x80", 8976},
		// The first and the last buckets.
		{"salt", "00000000000051b1", 0},
		{"salt", "0000000000000358", 1},
		{"salt", "0000000000000670", 9998},
		{"salt", "0000000000001737", 9999},
	} {
		if got := bucket.Of(x.salt, x.id); got != x.want {
			t.Errorf("Of(%q, %q) = %d, want %d", x.salt, x.id, got, x.want)
		}
		checkOf(t, x.salt, x.id)
	}
}

func TestBucketsOfAllBytes(t *testing.T) {
	for i := range 256 {
		c := string([]byte{byte(i)})
		for _, s := range []string{c, c + c, c + "a", "a" + c, "a" + c + "b", anID + c, c + anID, strings.Repeat(c, 16)} {
			checkOf(t, s, "")
			checkOf(t, "", s)
			checkOf(t, "salt", s)
			checkOf(t, s, anID)
			checkOf(t, s, s)
		}
	}
}

func TestBucketsOfArbitraryBytes(t *testing.T) {
	r := rand.New(rand.NewSource(3))
	for range 50000 {
		checkOf(t, random(r, 20), random(r, 20))
		checkOf(t, random(r, 20), bucket.NewID(r.Int(), r.Int()))
	}
	long := strings.Repeat("x", 1000000)
	checkOf(t, long, anID)
	checkOf(t, "salt", long)
	checkOf(t, long, strings.Repeat("\x00", 1000000))
}

// Every bucket has clients, and there are no others.
func TestEveryBucketIsUsed(t *testing.T) {
	var clients [api.Buckets]int
	for draw := range 300000 {
		b := bucket.Of("salt", bucket.NewID(draw, 1))
		if b < 0 || b >= api.Buckets {
			t.Fatalf("client %d is in the bucket %d", draw, b)
		}
		clients[b]++
	}
	if b := slices.Index(clients[:], 0); b >= 0 {
		t.Errorf("the bucket %d has no clients", b)
	}
}

func TestCanary(t *testing.T) {
	for _, x := range []struct {
		bucket, weight int
		want           bool
	}{
		{99, 100, true},
		{100, 100, false},
		{101, 100, false},
		{0, 0, false},
		{0, 1, true},
		{1, 1, false},
		{0, -1, false},
		{9998, 9999, true},
		{9999, 9999, false},
		{9999, 10000, true},
		{0, 10000, true},
		// What is before the first bucket is none, whatever the weight is.
		{-1, 0, false},
		{-1, 1, false},
		{-1, 10000, false},
		{-2, -1, false},
		{-1, -1, false},
		{math.MinInt, math.MaxInt, false},
		{math.MinInt, math.MinInt, false},
		{-1, math.MaxInt, false},
		// Outside the limits only the two comparisons count.
		{9999, 10001, true},
		{10000, 10000, false},
		{10000, 10001, true},
		{0, math.MaxInt, true},
		{math.MaxInt - 1, math.MaxInt, true},
		{math.MaxInt, math.MaxInt, false},
		{math.MaxInt, math.MinInt, false},
		{0, math.MinInt, false},
	} {
		if got := bucket.Canary(x.bucket, x.weight); got != x.want {
			t.Errorf("Canary(%d, %d) = %v", x.bucket, x.weight, got)
		}
		checkCanary(t, x.bucket, x.weight)
	}
}

func TestCanaryOfNumbers(t *testing.T) {
	all := numbers()
	for _, b := range all {
		for _, weight := range all {
			checkCanary(t, b, weight)
		}
	}
}

func TestCanaryOfArbitraryNumbers(t *testing.T) {
	r := rand.New(rand.NewSource(4))
	for range 100000 {
		checkCanary(t, int(r.Uint64()), int(r.Uint64()))
		checkCanary(t, r.Intn(api.Buckets), int(r.Uint64()))
		checkCanary(t, r.Intn(api.Buckets), r.Intn(api.Buckets+1))
		b := int(r.Uint64() >> r.Intn(64))
		checkCanary(t, b, b+r.Intn(5)-2)
	}
}

func TestCount(t *testing.T) {
	for _, x := range []struct{ weight, want int }{
		{math.MinInt, 0}, {-10000, 0}, {-1, 0}, {0, 0}, {1, 1}, {2, 2}, {500, 500}, {9999, 9999},
		{10000, 10000}, {10001, 10000}, {20000, 10000}, {1 << 32, 10000}, {1<<32 + 1, 10000}, {math.MaxInt, 10000},
	} {
		if got := bucket.Count(x.weight); got != x.want {
			t.Errorf("Count(%d) = %d, want %d", x.weight, got, x.want)
		}
	}
	for _, weight := range numbers() {
		checkCount(t, weight)
	}
}

// P15.3

// Every bucket is seen with every weight, and others around them: the count is that of
// the buckets that Canary names, and once a bucket is one of canary it remains one.
func TestEveryBucketWithEveryWeight(t *testing.T) {
	const around = 3
	var was [api.Buckets]bool
	for weight := -around; weight <= api.Buckets+around; weight++ {
		n := 0
		for b := -around; b < api.Buckets+around; b++ {
			is := bucket.Canary(b, weight)
			if want := b >= 0 && b < weight; is != want {
				t.Fatalf("Canary(%d, %d) = %v", b, weight, is)
			}
			if b < 0 || b >= api.Buckets {
				continue
			}
			if was[b] && !is {
				t.Fatalf("the weight %d moves the bucket %d back", weight, b)
			}
			if was[b] = is; is {
				n++
			}
		}
		if got, want := bucket.Count(weight), wantCount(weight); got != n || got != want {
			t.Fatalf("Count(%d) = %d, want %d, and Canary names %d", weight, got, want, n)
		}
	}
}

func TestCountIsWeight(t *testing.T) {
	for weight := range api.Buckets + 1 {
		if got := bucket.Count(weight); got != weight {
			t.Fatalf("Count(%d) = %d", weight, got)
		}
	}
}

// Greater weights, outside the limits too, only add buckets.
func TestNoBucketMovesBack(t *testing.T) {
	weights := numbers()
	slices.Sort(weights)
	for _, b := range numbers() {
		before := false
		for _, weight := range weights {
			after := bucket.Canary(b, weight)
			if before && !after {
				t.Fatalf("the weight %d moves the bucket %d back", weight, b)
			}
			before = after
		}
	}
}

// Clients that come with the IDs of their cookies stay with canary while the weight
// grows: there are none of them at first, and at last all are there.
func TestClientsStay(t *testing.T) {
	r := rand.New(rand.NewSource(5))
	for _, salt := range []string{"", "salt", "\x00\xff"} {
		was := map[string]bool{}
		for range 2000 {
			was[bucket.NewID(r.Int(), len(was))] = false
		}
		for _, weight := range []int{-1, 0, 1, 10, 100, 500, 2500, 5000, 9999, 10000, 10001, math.MaxInt} {
			for id, before := range was {
				sent := []api.Field{{Name: "Cookie", Value: "a=b; cohort=" + id}}
				kept, _ := cookie.Find(sent, "cohort")
				after := bucket.Canary(bucket.Of(salt, kept), weight)
				if before && !after || weight <= 0 && after || weight >= api.Buckets && !after {
					t.Fatalf("%q is with canary at the weight %d: %v", id, weight, after)
				}
				was[id] = after
			}
		}
	}
}
