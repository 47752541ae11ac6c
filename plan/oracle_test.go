package plan_test

import (
	"math/big"
	"slices"
	"testing"

	"canary/api"
	"canary/plan"
)

// The oracle says what the functions return as the document says it, with numbers of any
// size and the limits written out, and calls no other layer.

// isAnyOf reports whether n is one of the numbers from least to most.
func isAnyOf(n int, least, most int64) bool {
	b := big.NewInt(int64(n))
	return b.Cmp(big.NewInt(least)) >= 0 && b.Cmp(big.NewInt(most)) <= 0
}

func wantValid(p api.Plan) bool {
	if len(p.Weights) == 0 || len(p.Weights) > 8 {
		return false
	}
	for i, weight := range p.Weights {
		if !isAnyOf(weight, 1, 10000) {
			return false
		}
		for _, before := range p.Weights[:i] {
			if before >= weight {
				return false
			}
		}
	}
	bad := !isAnyOf(p.MinSamples, 1, 1000000) || !isAnyOf(p.Num, 0, 1000000) || !isAnyOf(p.Den, 1, 1000000)
	bad = bad || !isAnyOf(p.Hold, 1, 100) || !isAnyOf(p.Window, 1, 1000000)
	return !bad
}

func wantErrno(p api.Plan) api.Errno {
	if wantValid(p) {
		return 0
	}
	return 8
}

func wantWeight(p api.Plan, stage int) int {
	if wantValid(p) {
		for i, weight := range p.Weights {
			if i == stage {
				return weight
			}
		}
	}
	return 0
}

// wantVerdict compares the fractions Errors / Total and Num / Den where Total is not 0.
func wantVerdict(p api.Plan, w api.Window) int {
	if !wantValid(p) || !isAnyOf(w.Total, 0, 1000000000) || !isAnyOf(w.Errors, 0, 1000000000) {
		return 0
	}
	if !isAnyOf(w.Total, int64(p.MinSamples), 1000000000) {
		return 1
	}
	share := big.NewRat(int64(w.Errors), int64(w.Total))
	if share.Cmp(big.NewRat(int64(p.Num), int64(p.Den))) > 0 {
		return 3
	}
	return 2
}

// behind is what lies in the caller's memory behind the weights of guarded.
const behind = -7

// guarded returns the same plan with weights of its own, and the memory in which they
// are the beginning.
func guarded(p api.Plan) (api.Plan, []int) {
	memory := append(slices.Clone(p.Weights), behind, behind, behind)
	p.Weights = memory[:len(p.Weights)]
	return p, memory
}

// checkMemory reports what a call changed of its arguments, or behind them.
func checkMemory(t *testing.T, p api.Plan, memory []int) {
	t.Helper()
	n := len(p.Weights)
	if !slices.Equal(memory[:n], p.Weights) || !slices.Equal(memory[n:], []int{behind, behind, behind}) {
		t.Fatalf("%+v has been changed: %d", p, memory)
	}
}

// checkValidate compares Validate with the oracle; twice, since nothing is kept from call to call.
func checkValidate(t *testing.T, p api.Plan) {
	t.Helper()
	own, memory := guarded(p)
	for range 2 {
		if got, want := plan.Validate(own), wantErrno(p); got != want {
			t.Fatalf("Validate(%+v) = %d, want %d", p, got, want)
		}
		checkMemory(t, p, memory)
	}
}

// checkWeight compares Weight with the oracle.
func checkWeight(t *testing.T, p api.Plan, stage int) {
	t.Helper()
	own, memory := guarded(p)
	for range 2 {
		if got, want := plan.Weight(own, stage), wantWeight(p, stage); got != want {
			t.Fatalf("Weight(%+v, %d) = %d, want %d", p, stage, got, want)
		}
		checkMemory(t, p, memory)
	}
}

// checkVerdict compares Verdict with the oracle.
func checkVerdict(t *testing.T, p api.Plan, w api.Window) {
	t.Helper()
	own, memory := guarded(p)
	for range 2 {
		if got, want := plan.Verdict(own, w), wantVerdict(p, w); got != want {
			t.Fatalf("Verdict(%+v, %+v) = %d, want %d", p, w, got, want)
		}
		checkMemory(t, p, memory)
	}
}

// check compares all functions with the oracle, on the stages of the plan and those
// around them, and on a few windows.
func check(t *testing.T, p api.Plan) {
	t.Helper()
	checkValidate(t, p)
	for stage := -2; stage < min(len(p.Weights), 12)+2; stage++ {
		checkWeight(t, p, stage)
	}
	for _, w := range []api.Window{{}, {Total: 1}, {Total: 100, Errors: 1, Age: 1}, {Total: 1000000, Errors: 1000000}} {
		checkVerdict(t, p, w)
	}
}
