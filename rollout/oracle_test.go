package rollout_test

import (
	"math/big"
	"slices"
	"testing"

	"canary/api"
	"canary/rollout"
)

// The oracle says what the functions return as the document says it, with numbers of any
// size and all constants written out, and calls no other layer. Its states are 0 Idle,
// 1 Running, 2 Promoted, 3 RolledBack and 4 Paused.

// wantState has a row for each of the commands from 1 on, and in it the state to which
// the command leads from each of the states from 0 on; none means that it is not possible.
func wantState(command, state int) int {
	const none = -1
	rows := [6][5]int{
		{1, none, none, none, none}, // start
		{none, 4, none, none, none}, // pause
		{none, none, none, none, 1}, // resume
		{none, 2, none, none, 2},    // promote
		{none, 3, 3, none, 3},       // abort
		{0, 0, 0, 0, 0},             // reset
	}
	if state < 0 || state > 4 {
		if command == 6 {
			return 0
		}
		return none
	}
	return rows[command-1][state]
}

func wantCommand(r api.Rollout, command int) (api.Rollout, api.Errno) {
	if command < 1 || command > 6 {
		return api.Rollout{}, 1
	}
	state := wantState(command, r.State)
	if state < 0 {
		return api.Rollout{}, 7
	}
	if command == 2 || command == 3 {
		return api.Rollout{State: state, Stage: r.Stage, Healthy: r.Healthy, Window: r.Window}, 0
	}
	return api.Rollout{State: state}, 0
}

// wantCounter returns a counter that has grown by n, which is 0 or 1.
func wantCounter(counter, n int) int {
	if counter < 0 {
		return n
	}
	if counter >= 1000000000 {
		return 1000000000
	}
	return counter + n
}

func wantObserve(r api.Rollout, failed bool) api.Rollout {
	if r.State != 1 {
		return r
	}
	errors := 0
	if failed {
		errors = 1
	}
	r.Window.Total = wantCounter(r.Window.Total, 1)
	r.Window.Errors = wantCounter(r.Window.Errors, errors)
	return r
}

// verdicts of the oracle.
const (
	unknown = "unknown"
	thin    = "thin"
	healthy = "healthy"
	failing = "failing"
)

// wantVerdict compares the fractions Errors / Total and Num / Den; p is valid.
func wantVerdict(p api.Plan, w api.Window) string {
	for _, n := range []int{w.Total, w.Errors} {
		if n < 0 || n > 1000000000 {
			return unknown
		}
	}
	if w.Total < p.MinSamples {
		return thin
	}
	share := big.NewRat(int64(w.Errors), int64(w.Total))
	if share.Cmp(big.NewRat(int64(p.Num), int64(p.Den))) > 0 {
		return failing
	}
	return healthy
}

// wantClosed reports whether a window of this age is closed by a tick.
func wantClosed(age, length int) bool {
	later := big.NewInt(1)
	if age > 0 {
		later.Add(later, big.NewInt(int64(age)))
	}
	return later.Cmp(big.NewInt(int64(length))) >= 0
}

func wantTick(r api.Rollout, p api.Plan) api.Rollout {
	if r.State != 1 {
		return r
	}
	if !wantClosed(r.Window.Age, p.Window) {
		r.Window.Age = max(r.Window.Age, 0) + 1
		return r
	}
	next := api.Rollout{State: 1, Stage: r.Stage, Healthy: r.Healthy}
	switch wantVerdict(p, r.Window) {
	case failing:
		return api.Rollout{State: 3}
	case thin:
		next.Healthy = 0
	case healthy:
		more := new(big.Int).Add(big.NewInt(int64(r.Healthy)), big.NewInt(1))
		if more.Cmp(big.NewInt(int64(p.Hold))) == 0 {
			return wantFurther(r.Stage, p)
		}
		if more.IsInt64() { // the greatest int does not wrap
			next.Healthy = int(more.Int64())
		}
	}
	return next
}

// wantFurther returns the rollout at the end of a stage.
func wantFurther(stage int, p api.Plan) api.Rollout {
	for further := range p.Weights {
		if further > stage {
			return api.Rollout{State: 1, Stage: stage + 1}
		}
	}
	return api.Rollout{State: 2}
}

func wantWeight(r api.Rollout, p api.Plan) int {
	if r.State == 2 {
		return 10000
	}
	for stage, weight := range p.Weights {
		if (r.State == 1 || r.State == 4) && stage == r.Stage {
			return weight
		}
	}
	return 0
}

func wantStep(r api.Rollout, p api.Plan, x api.Input) api.Rollout {
	switch x.Kind {
	case 1:
		return wantTick(r, p)
	case 2, 3:
		return wantObserve(r, x.Kind == 3)
	case 4:
		if after, e := wantCommand(r, x.Command); e == 0 {
			return after
		}
	}
	return r
}

func wantRun(p api.Plan, l ...api.Input) api.Rollout {
	r := api.Rollout{}
	for _, x := range l {
		r = wantStep(r, p, x)
	}
	return r
}

// behind is what lies in the caller's memory behind the weights of guarded.
const behind = -7

// guarded returns the same plan with weights of its own, and the memory in which they
// are the beginning.
func guarded(p api.Plan) (api.Plan, []int) {
	memory := append(slices.Clone(p.Weights), behind, behind, behind)
	p.Weights = memory[:len(p.Weights)]
	return p, memory
}

// checkMemory reports what a call changed of its arguments, or behind them.
func checkMemory(t *testing.T, p api.Plan, memory []int) {
	t.Helper()
	n := len(p.Weights)
	if !slices.Equal(memory[:n], p.Weights) || !slices.Equal(memory[n:], []int{behind, behind, behind}) {
		t.Fatalf("%+v has been changed: %d", p, memory)
	}
}

// checkCommand compares Command with the oracle; twice, since nothing is kept from call to call.
func checkCommand(t *testing.T, r api.Rollout, command int) {
	t.Helper()
	want, wantErrno := wantCommand(r, command)
	for range 2 {
		if got, e := rollout.Command(r, command); got != want || e != wantErrno {
			t.Fatalf("Command(%+v, %d) = %+v and %d, want %+v and %d", r, command, got, e, want, wantErrno)
		}
	}
}

// checkObserve compares Observe with the oracle.
func checkObserve(t *testing.T, r api.Rollout, failed bool) {
	t.Helper()
	for range 2 {
		if got, want := rollout.Observe(r, failed), wantObserve(r, failed); got != want {
			t.Fatalf("Observe(%+v, %v) = %+v, want %+v", r, failed, got, want)
		}
	}
}

// checkTick compares Tick with the oracle.
func checkTick(t *testing.T, r api.Rollout, p api.Plan) {
	t.Helper()
	own, memory := guarded(p)
	for range 2 {
		if got, want := rollout.Tick(r, own), wantTick(r, p); got != want {
			t.Fatalf("Tick(%+v, %+v) = %+v, want %+v", r, p, got, want)
		}
		checkMemory(t, p, memory)
	}
}

// checkWeight compares Weight with the oracle.
func checkWeight(t *testing.T, r api.Rollout, p api.Plan) {
	t.Helper()
	own, memory := guarded(p)
	for range 2 {
		if got, want := rollout.Weight(r, own), wantWeight(r, p); got != want {
			t.Fatalf("Weight(%+v, %+v) = %d, want %d", r, p, got, want)
		}
		checkMemory(t, p, memory)
	}
}

// checkStep compares Step with the oracle.
func checkStep(t *testing.T, r api.Rollout, p api.Plan, x api.Input) {
	t.Helper()
	own, memory := guarded(p)
	for range 2 {
		if got, want := rollout.Step(r, own, x), wantStep(r, p, x); got != want {
			t.Fatalf("Step(%+v, %+v, %+v) = %+v, want %+v", r, p, x, got, want)
		}
		checkMemory(t, p, memory)
	}
}

// after is what lies in the caller's memory behind the inputs of a list: had it been
// carried out, the rollout would be idle.
var after = api.Input{Kind: api.InputCommand, Command: api.CmdReset}

// checkRun compares Run with the oracle, on a list that is the beginning of a longer one.
func checkRun(t *testing.T, p api.Plan, l ...api.Input) {
	t.Helper()
	own, memory := guarded(p)
	inputs := append(slices.Clone(l), after, after)
	before := slices.Clone(inputs)
	for range 2 {
		if got, want := rollout.Run(own, inputs[:len(l)]...), wantRun(p, l...); got != want {
			t.Fatalf("Run(%+v, %+v) = %+v, want %+v", p, l, got, want)
		}
		checkMemory(t, p, memory)
		if !slices.Equal(inputs, before) {
			t.Fatalf("Run has changed %+v: %+v", before, inputs)
		}
	}
}
