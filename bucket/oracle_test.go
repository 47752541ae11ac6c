package bucket_test

import (
	"fmt"
	"hash/fnv"
	"math/big"
	"testing"

	"canary/bucket"
)

// The oracle says what the functions return as the document says it, with the hash of
// the standard library and numbers of any size, and calls no other layer.

// wantSum is the hash of the strings, each with a byte 0 behind it.
func wantSum(l ...string) uint64 {
	h := fnv.New64a()
	for _, s := range l {
		h.Write([]byte(s))
		h.Write([]byte{0})
	}
	return h.Sum64()
}

func wantDecimal(n int) string {
	if n < 0 {
		return "0"
	}
	return big.NewInt(int64(n)).Text(10)
}

func wantID(draw, serial int) string {
	return fmt.Sprintf("%016x", wantSum(wantDecimal(draw), wantDecimal(serial)))
}

func wantOf(salt, id string) int {
	n := new(big.Int).SetUint64(wantSum(salt, id))
	return int(n.Mod(n, big.NewInt(10000)).Int64())
}

// wantCanary compares differences that cannot overflow.
func wantCanary(b, weight int) bool {
	before := new(big.Int).Sub(big.NewInt(int64(b)), big.NewInt(int64(weight)))
	return big.NewInt(int64(b)).Sign() >= 0 && before.Sign() < 0
}

// wantCount is what the consequence says, and what follows from the promises for the other weights.
func wantCount(weight int) int {
	switch {
	case weight < 0:
		return 0
	case weight > 10000:
		return 10000
	}
	return weight
}

// checkID compares NewID with the oracle; twice, since nothing is kept from call to call.
func checkID(t *testing.T, draw, serial int) {
	t.Helper()
	for range 2 {
		if got, want := bucket.NewID(draw, serial), wantID(draw, serial); got != want {
			t.Fatalf("NewID(%d, %d) = %q, want %q", draw, serial, got, want)
		}
	}
}

// checkOf compares Of with the oracle.
func checkOf(t *testing.T, salt, id string) {
	t.Helper()
	for range 2 {
		if got, want := bucket.Of(salt, id), wantOf(salt, id); got != want {
			t.Fatalf("Of(%q, %q) = %d, want %d", salt, id, got, want)
		}
	}
}

// checkCanary compares Canary with the oracle.
func checkCanary(t *testing.T, b, weight int) {
	t.Helper()
	for range 2 {
		if got, want := bucket.Canary(b, weight), wantCanary(b, weight); got != want {
			t.Fatalf("Canary(%d, %d) = %v", b, weight, got)
		}
	}
}

// checkCount compares Count with the oracle.
func checkCount(t *testing.T, weight int) {
	t.Helper()
	for range 2 {
		if got, want := bucket.Count(weight), wantCount(weight); got != want {
			t.Fatalf("Count(%d) = %d, want %d", weight, got, want)
		}
	}
}
