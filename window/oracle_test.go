package window_test

import (
	"math/big"
	"slices"
	"testing"

	"canary/api"
	"canary/window"
)

// The oracle says what the functions return as the document says it, with numbers of any
// size and the greatest count written out, and calls no other layer.

// wantSum returns the sum of the numbers that are not negative, at most 1000000000.
func wantSum(l ...int) int {
	sum := new(big.Int)
	for _, n := range l {
		if n > 0 {
			sum.Add(sum, big.NewInt(int64(n)))
		}
	}
	if most := big.NewInt(1000000000); sum.Cmp(most) > 0 {
		sum = most
	}
	return int(sum.Int64())
}

// wantCounter returns what the number of a counter counts as.
func wantCounter(n int) int {
	if n < 0 {
		return 0
	}
	return min(n, 1000000000)
}

func wantCount(w api.Window, failed bool) api.Window {
	w.Total, w.Errors = wantCounter(w.Total), wantCounter(w.Errors)
	if w.Total != 1000000000 {
		w.Total++
	}
	if failed && w.Errors != 1000000000 {
		w.Errors++
	}
	return w
}

func wantTick(w api.Window, length int) (api.Window, bool) {
	age := big.NewInt(1)
	if w.Age >= 0 {
		age.Add(age, big.NewInt(int64(w.Age)))
	}
	if age.Cmp(big.NewInt(int64(length))) >= 0 {
		return api.Window{}, true
	}
	return api.Window{Total: w.Total, Errors: w.Errors, Age: int(age.Int64())}, false
}

func wantMerge(l ...api.Window) api.Window {
	var totals, errors []int
	for _, w := range l {
		totals, errors = append(totals, w.Total), append(errors, w.Errors)
	}
	return api.Window{Total: wantSum(totals...), Errors: wantSum(errors...)}
}

// checkCount compares Count with the oracle; twice, since nothing is kept from call to call.
func checkCount(t *testing.T, w api.Window, failed bool) {
	t.Helper()
	for range 2 {
		if got, want := window.Count(w, failed), wantCount(w, failed); got != want {
			t.Fatalf("Count(%+v, %v) = %+v, want %+v", w, failed, got, want)
		}
	}
}

// checkTick compares Tick with the oracle.
func checkTick(t *testing.T, w api.Window, length int) {
	t.Helper()
	for range 2 {
		got, closed := window.Tick(w, length)
		if want, wantClosed := wantTick(w, length); got != want || closed != wantClosed {
			t.Fatalf("Tick(%+v, %d) = %+v and %v, want %+v and %v", w, length, got, closed, want, wantClosed)
		}
	}
}

// behind is what lies in the caller's memory behind the windows of a list.
var behind = api.Window{Total: -7, Errors: -8, Age: -9}

// checkMerge compares Merge with the oracle, on a list that is the beginning of a longer
// one, and reports what it changed of that.
func checkMerge(t *testing.T, l ...api.Window) {
	t.Helper()
	memory := append(slices.Clone(l), behind, behind)
	before := slices.Clone(memory)
	for range 2 {
		if got, want := window.Merge(memory[:len(l)]...), wantMerge(l...); got != want {
			t.Fatalf("Merge(%+v) = %+v, want %+v", l, got, want)
		}
		if !slices.Equal(memory, before) {
			t.Fatalf("Merge has changed %+v: %+v", before, memory)
		}
	}
}
