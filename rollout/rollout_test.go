package rollout_test

import (
	"math"
	"math/rand"
	"slices"
	"testing"

	"canary/api"
	"canary/rollout"
)

// Each promise is checked on named cases, on numbers around every limit, around the
// powers of 2 and 10 and at both ends of int, on all small rollouts with a few plans, on
// all short lists of inputs, on rollouts that go through many stages, and on arbitrary
// rollouts, plans and lists, also outside the limits, against an oracle that calls no
// other layer.

const most = 1000000000

// of returns a rollout with these numbers.
func of(state, stage, healthy, total, errors, age int) api.Rollout {
	return api.Rollout{State: state, Stage: stage, Healthy: healthy, Window: api.Window{Total: total, Errors: errors, Age: age}}
}

// only returns a rollout of which everything but the state is zero.
func only(state int) api.Rollout {
	return api.Rollout{State: state}
}

// example returns a plan of three stages: a stage needs two windows of five ticks in
// which at least ten samples have at most one error in a hundred.
func example() api.Plan {
	return planOf([]int{100, 1000, 5000}, 10, 1, 100, 2, 5)
}

// swift returns a plan that decides at each tick and from the first sample on.
func swift(weights ...int) api.Plan {
	return planOf(weights, 1, 0, 1, 1, 1)
}

func planOf(weights []int, minSamples, num, den, hold, length int) api.Plan {
	return api.Plan{Weights: weights, MinSamples: minSamples, Num: num, Den: den, Hold: hold, Window: length}
}

func states() []int {
	return []int{api.Idle, api.Running, api.Promoted, api.RolledBack, api.Paused}
}

// numbers returns the same numbers in every run: small ones, those around the limits and
// around the powers of 2 and 10, the extremes, and arbitrary ones.
func numbers() []int {
	l := []int{math.MinInt, math.MinInt + 1, math.MaxInt - 1, math.MaxInt}
	for n := -20; n <= 20; n++ {
		l = append(l, n, 100+n, 10000+n, 1000000+n, most+n)
	}
	for _, base := range []int{2, 10} {
		for p := 1; ; p *= base {
			l = append(l, p-1, p, p+1, -p-1, -p, -p+1)
			if p > math.MaxInt/base {
				break
			}
		}
	}
	r := rand.New(rand.NewSource(1))
	for range 100 {
		l = append(l, int(r.Uint64()), int(r.Uint64()>>r.Intn(64)))
	}
	return l
}

// few returns the numbers that matter most: the limits, those beside them, and the extremes.
func few() []int {
	return []int{math.MinInt, -1, 0, 1, 2, 3, 4, 5, 99, 100, most - 1, most, most + 1, math.MaxInt - 1, math.MaxInt}
}

// anyNumber returns an arbitrary number, more often one that matters.
func anyNumber(r *rand.Rand) int {
	if r.Intn(2) == 0 {
		return few()[r.Intn(len(few()))]
	}
	return int(r.Uint64()) >> r.Intn(64)
}

// anyRollout returns a rollout of any numbers, more often in a state that is known.
func anyRollout(r *rand.Rand) api.Rollout {
	state := r.Intn(6)
	if state == 5 {
		state = anyNumber(r)
	}
	return of(state, anyNumber(r), anyNumber(r), anyNumber(r), anyNumber(r), anyNumber(r))
}

// anyPlan returns a valid plan.
func anyPlan(r *rand.Rand) api.Plan {
	chosen := map[int]bool{}
	for range 1 + r.Intn(8) {
		chosen[1+r.Intn(api.Buckets)] = true
	}
	var weights []int
	for weight := range chosen {
		weights = append(weights, weight)
	}
	slices.Sort(weights)
	number := func(least, most int) int { return least + r.Intn(most-least+1)>>r.Intn(20) }
	return planOf(weights, number(1, 1000000), number(0, 1000000), number(1, 1000000), number(1, 100), number(1, 1000000))
}

// possible returns a rollout as it may be with this plan, more often one of which the
// window is nearly over or the stage nearly done.
func possible(r *rand.Rand, p api.Plan) api.Rollout {
	state := states()[r.Intn(5)]
	if state != api.Running && state != api.Paused {
		return only(state)
	}
	x := of(state, r.Intn(len(p.Weights)), r.Intn(p.Hold), r.Intn(2*p.MinSamples), 0, r.Intn(p.Window))
	limit := min(x.Window.Total, p.Num*x.Window.Total/p.Den)
	x.Window.Errors = r.Intn(x.Window.Total + 1)
	if r.Intn(2) == 0 {
		x.Window.Errors = min(limit+r.Intn(2), x.Window.Total)
	}
	if r.Intn(2) == 0 {
		x.Window.Age = p.Window - 1
	}
	if r.Intn(2) == 0 {
		x.Healthy = p.Hold - 1
	}
	return x
}

// input returns an input that is no command.
func input(kind int) api.Input {
	return api.Input{Kind: kind}
}

// command returns an input that is a command.
func command(n int) api.Input {
	return api.Input{Kind: api.InputCommand, Command: n}
}

// check compares all functions with the oracle.
func check(t *testing.T, r api.Rollout, p api.Plan) {
	t.Helper()
	for n := range 8 {
		checkCommand(t, r, n)
		checkStep(t, r, p, command(n))
	}
	checkObserve(t, r, false)
	checkObserve(t, r, true)
	checkTick(t, r, p)
	checkWeight(t, r, p)
	for kind := range 6 {
		checkStep(t, r, p, input(kind))
	}
}

// P18.1

func TestCommands(t *testing.T) {
	const start, pause, resume, promote, abort, reset = 1, 2, 3, 4, 5, 6
	for _, x := range []struct {
		name        string
		r           api.Rollout
		command     int
		want        api.Rollout
		wantedErrno api.Errno
	}{
		{"start idle", only(api.Idle), start, only(api.Running), api.OK},
		{"start running", of(api.Running, 1, 2, 3, 1, 4), start, api.Rollout{}, api.ErrState},
		{"start promoted", only(api.Promoted), start, api.Rollout{}, api.ErrState},
		{"start rolled back", only(api.RolledBack), start, api.Rollout{}, api.ErrState},
		{"start paused", of(api.Paused, 1, 2, 3, 1, 4), start, api.Rollout{}, api.ErrState},
		{"pause idle", only(api.Idle), pause, api.Rollout{}, api.ErrState},
		{"pause running", of(api.Running, 1, 2, 3, 1, 4), pause, of(api.Paused, 1, 2, 3, 1, 4), api.OK},
		{"pause at the beginning", only(api.Running), pause, only(api.Paused), api.OK},
		{"pause promoted", only(api.Promoted), pause, api.Rollout{}, api.ErrState},
		{"pause rolled back", only(api.RolledBack), pause, api.Rollout{}, api.ErrState},
		{"pause paused", of(api.Paused, 1, 2, 3, 1, 4), pause, api.Rollout{}, api.ErrState},
		{"resume idle", only(api.Idle), resume, api.Rollout{}, api.ErrState},
		{"resume running", of(api.Running, 1, 2, 3, 1, 4), resume, api.Rollout{}, api.ErrState},
		{"resume promoted", only(api.Promoted), resume, api.Rollout{}, api.ErrState},
		{"resume rolled back", only(api.RolledBack), resume, api.Rollout{}, api.ErrState},
		{"resume paused", of(api.Paused, 1, 2, 3, 1, 4), resume, of(api.Running, 1, 2, 3, 1, 4), api.OK},
		{"promote idle", only(api.Idle), promote, api.Rollout{}, api.ErrState},
		{"promote running", of(api.Running, 1, 2, 3, 1, 4), promote, only(api.Promoted), api.OK},
		{"promote promoted", only(api.Promoted), promote, api.Rollout{}, api.ErrState},
		{"promote rolled back", only(api.RolledBack), promote, api.Rollout{}, api.ErrState},
		{"promote paused", of(api.Paused, 1, 2, 3, 1, 4), promote, only(api.Promoted), api.OK},
		{"abort idle", only(api.Idle), abort, api.Rollout{}, api.ErrState},
		{"abort running", of(api.Running, 1, 2, 3, 1, 4), abort, only(api.RolledBack), api.OK},
		{"abort promoted", only(api.Promoted), abort, only(api.RolledBack), api.OK},
		{"abort rolled back", only(api.RolledBack), abort, api.Rollout{}, api.ErrState},
		{"abort paused", of(api.Paused, 1, 2, 3, 1, 4), abort, only(api.RolledBack), api.OK},
		{"reset idle", only(api.Idle), reset, only(api.Idle), api.OK},
		{"reset running", of(api.Running, 1, 2, 3, 1, 4), reset, only(api.Idle), api.OK},
		{"reset promoted", only(api.Promoted), reset, only(api.Idle), api.OK},
		{"reset rolled back", only(api.RolledBack), reset, only(api.Idle), api.OK},
		{"reset paused", of(api.Paused, 1, 2, 3, 1, 4), reset, only(api.Idle), api.OK},
		// What a rollout of such a state cannot have is left out by the same commands.
		{"start idle with numbers", of(api.Idle, 1, 2, 3, 1, 4), start, only(api.Running), api.OK},
		{"abort promoted with numbers", of(api.Promoted, 1, 2, 3, 1, 4), abort, only(api.RolledBack), api.OK},
		{"reset idle with numbers", of(api.Idle, 1, 2, 3, 1, 4), reset, only(api.Idle), api.OK},
		{"pause with numbers outside the limits", of(api.Running, -1, math.MinInt, -3, most+1, math.MaxInt), pause, of(api.Paused, -1, math.MinInt, -3, most+1, math.MaxInt), api.OK},
		{"resume with numbers outside the limits", of(api.Paused, math.MaxInt, -2, math.MinInt, -1, -4), resume, of(api.Running, math.MaxInt, -2, math.MinInt, -1, -4), api.OK},
		// There is no such state, but a reset is possible in each.
		{"start in the state 5", of(5, 1, 2, 3, 1, 4), start, api.Rollout{}, api.ErrState},
		{"pause in the state 5", of(5, 1, 2, 3, 1, 4), pause, api.Rollout{}, api.ErrState},
		{"resume in the state -1", of(-1, 1, 2, 3, 1, 4), resume, api.Rollout{}, api.ErrState},
		{"promote in the state 5", of(5, 1, 2, 3, 1, 4), promote, api.Rollout{}, api.ErrState},
		{"abort in the state -1", of(-1, 1, 2, 3, 1, 4), abort, api.Rollout{}, api.ErrState},
		{"reset in the state 5", of(5, 1, 2, 3, 1, 4), reset, only(api.Idle), api.OK},
		{"reset in the state -1", of(-1, 1, 2, 3, 1, 4), reset, only(api.Idle), api.OK},
		// There is no such command, whatever the state is.
		{"0", of(api.Running, 1, 2, 3, 1, 4), 0, api.Rollout{}, api.ErrRange},
		{"7", of(api.Running, 1, 2, 3, 1, 4), 7, api.Rollout{}, api.ErrRange},
		{"-1", only(api.Idle), -1, api.Rollout{}, api.ErrRange},
		{"7 in the state 5", only(5), 7, api.Rollout{}, api.ErrRange},
		{"start above 2^32", only(api.Idle), 1<<32 + start, api.Rollout{}, api.ErrRange},
		{"reset above 2^32", only(api.Promoted), 1<<32 + reset, api.Rollout{}, api.ErrRange},
	} {
		got, e := rollout.Command(x.r, x.command)
		if got != x.want || e != x.wantedErrno {
			t.Errorf("%s: Command(%+v, %d) = %+v and %d", x.name, x.r, x.command, got, e)
		}
		checkCommand(t, x.r, x.command)
	}
}

// No number but the six is a command, in no state.
func TestCommandsOfNumbers(t *testing.T) {
	all := numbers()
	for _, state := range append(states(), 5, -1, math.MinInt, math.MaxInt) {
		for _, n := range all {
			r := of(state, 1, 2, 3, 1, 4)
			if got, e := rollout.Command(r, n); (n < 1 || n > 6) && (got != api.Rollout{} || e != api.ErrRange) {
				t.Fatalf("Command(%+v, %d) = %+v and %d", r, n, got, e)
			}
			checkCommand(t, r, n)
		}
	}
}

// In no state but the five, no command but a reset is possible.
func TestCommandsInNumbers(t *testing.T) {
	for _, state := range numbers() {
		for n := 1; n <= 6; n++ {
			r := of(state, 1, 2, 3, 1, 4)
			if got, e := rollout.Command(r, n); (state < 0 || state > 4) && n != api.CmdReset && (got != api.Rollout{} || e != api.ErrState) {
				t.Fatalf("Command(%+v, %d) = %+v and %d", r, n, got, e)
			}
			checkCommand(t, r, n)
		}
	}
}

// Each number of a rollout alone, and all of them, are kept or left out.
func TestCommandsWithNumbers(t *testing.T) {
	for _, state := range states() {
		for n := 1; n <= 6; n++ {
			for _, x := range numbers() {
				for _, r := range []api.Rollout{
					of(state, x, 0, 0, 0, 0), of(state, 0, x, 0, 0, 0), of(state, 0, 0, x, 0, 0),
					of(state, 0, 0, 0, x, 0), of(state, 0, 0, 0, 0, x), of(state, x, x, x, x, x),
				} {
					checkCommand(t, r, n)
				}
			}
		}
	}
}

func TestCommandsOfArbitraryRollouts(t *testing.T) {
	r := rand.New(rand.NewSource(2))
	for range 100000 {
		checkCommand(t, anyRollout(r), r.Intn(8))
		checkCommand(t, anyRollout(r), anyNumber(r))
	}
}

// P18.2

func TestObserve(t *testing.T) {
	for _, x := range []struct {
		r      api.Rollout
		failed bool
		want   api.Rollout
	}{
		{only(api.Running), false, of(api.Running, 0, 0, 1, 0, 0)},
		{only(api.Running), true, of(api.Running, 0, 0, 1, 1, 0)},
		{of(api.Running, 1, 2, 3, 1, 4), false, of(api.Running, 1, 2, 4, 1, 4)},
		{of(api.Running, 1, 2, 3, 1, 4), true, of(api.Running, 1, 2, 4, 2, 4)},
		// The counters stay at the greatest count, and count from 0 to it.
		{of(api.Running, 0, 0, most-1, most-1, 0), true, of(api.Running, 0, 0, most, most, 0)},
		{of(api.Running, 0, 0, most, most-1, 0), true, of(api.Running, 0, 0, most, most, 0)},
		{of(api.Running, 0, 0, most, most, 0), true, of(api.Running, 0, 0, most, most, 0)},
		{of(api.Running, 0, 0, most, 3, 0), false, of(api.Running, 0, 0, most, 3, 0)},
		{of(api.Running, 0, 0, math.MaxInt, math.MaxInt, 0), true, of(api.Running, 0, 0, most, most, 0)},
		{of(api.Running, 0, 0, -5, -7, 0), false, of(api.Running, 0, 0, 1, 0, 0)},
		{of(api.Running, 0, 0, math.MinInt, math.MinInt, 0), true, of(api.Running, 0, 0, 1, 1, 0)},
		// All else stays as it is.
		{of(api.Running, -1, math.MaxInt, 0, 0, math.MinInt), true, of(api.Running, -1, math.MaxInt, 1, 1, math.MinInt)},
		{of(api.Running, math.MinInt, -1, 0, 0, math.MaxInt), false, of(api.Running, math.MinInt, -1, 1, 0, math.MaxInt)},
		// Nothing is counted in any other state.
		{only(api.Idle), false, only(api.Idle)},
		{only(api.Idle), true, only(api.Idle)},
		{only(api.Promoted), false, only(api.Promoted)},
		{only(api.Promoted), true, only(api.Promoted)},
		{only(api.RolledBack), false, only(api.RolledBack)},
		{only(api.RolledBack), true, only(api.RolledBack)},
		{of(api.Paused, 1, 2, 3, 1, 4), false, of(api.Paused, 1, 2, 3, 1, 4)},
		{of(api.Paused, 1, 2, 3, 1, 4), true, of(api.Paused, 1, 2, 3, 1, 4)},
		{of(api.Paused, 1, 2, -3, most+1, 4), true, of(api.Paused, 1, 2, -3, most+1, 4)},
		{of(api.Idle, 1, 2, -3, most+1, 4), true, of(api.Idle, 1, 2, -3, most+1, 4)},
		{of(5, 1, 2, 3, 1, 4), true, of(5, 1, 2, 3, 1, 4)},
		{of(-1, 1, 2, 3, 1, 4), false, of(-1, 1, 2, 3, 1, 4)},
		{of(1<<32+1, 1, 2, 3, 1, 4), true, of(1<<32+1, 1, 2, 3, 1, 4)},
	} {
		if got := rollout.Observe(x.r, x.failed); got != x.want {
			t.Errorf("Observe(%+v, %v) = %+v, want %+v", x.r, x.failed, got, x.want)
		}
		checkObserve(t, x.r, x.failed)
	}
}

func TestObserveInNumbers(t *testing.T) {
	for _, state := range numbers() {
		checkObserve(t, of(state, 1, 2, 3, 1, 4), true)
		checkObserve(t, of(state, 1, 2, 3, 1, 4), false)
	}
}

func TestObserveWithNumbers(t *testing.T) {
	all := numbers()
	for _, state := range states() {
		for _, x := range all {
			for _, r := range []api.Rollout{of(state, x, 2, 3, 1, 4), of(state, 1, x, 3, 1, 4), of(state, 1, 2, 3, 1, x)} {
				checkObserve(t, r, true)
				checkObserve(t, r, false)
			}
		}
	}
	for _, total := range all {
		for _, errors := range all {
			checkObserve(t, of(api.Running, 1, 2, total, errors, 4), true)
			checkObserve(t, of(api.Running, 1, 2, total, errors, 4), false)
		}
	}
}

func TestObserveOfArbitraryRollouts(t *testing.T) {
	r := rand.New(rand.NewSource(3))
	for range 100000 {
		checkObserve(t, anyRollout(r), r.Intn(2) == 0)
	}
}

// P18.3

func TestTick(t *testing.T) {
	const run = api.Running
	for _, x := range []struct {
		name    string
		r, want api.Rollout
	}{
		{"a new window", only(run), of(run, 0, 0, 0, 0, 1)},
		{"an open window", of(run, 1, 1, 30, 20, 2), of(run, 1, 1, 30, 20, 3)},
		{"one tick before the end", of(run, 1, 1, 30, 20, 3), of(run, 1, 1, 30, 20, 4)},
		{"too few samples", of(run, 1, 1, 9, 0, 4), of(run, 1, 0, 0, 0, 0)},
		{"too few samples and many errors", of(run, 1, 1, 9, 9, 4), of(run, 1, 0, 0, 0, 0)},
		{"no samples", of(run, 2, 1, 0, 0, 4), of(run, 2, 0, 0, 0, 0)},
		{"too few samples in the first stage", of(run, 0, 0, 9, 0, 4), only(run)},
		{"healthy", of(run, 1, 0, 10, 0, 4), of(run, 1, 1, 0, 0, 0)},
		{"healthy with errors", of(run, 1, 0, 100, 1, 4), of(run, 1, 1, 0, 0, 0)},
		{"healthy at the end of the first stage", of(run, 0, 1, 10, 0, 4), of(run, 1, 0, 0, 0, 0)},
		{"healthy at the end of the second stage", of(run, 1, 1, 10, 0, 4), of(run, 2, 0, 0, 0, 0)},
		{"healthy at the end of the last stage", of(run, 2, 1, 10, 0, 4), only(api.Promoted)},
		{"healthy in the last stage", of(run, 2, 0, 10, 0, 4), of(run, 2, 1, 0, 0, 0)},
		{"failing", of(run, 1, 1, 100, 2, 4), only(api.RolledBack)},
		{"failing with the least samples", of(run, 0, 0, 10, 1, 4), only(api.RolledBack)},
		{"failing in the last stage", of(run, 2, 1, 10, 10, 4), only(api.RolledBack)},
		{"the greatest counters, failing", of(run, 1, 1, most, most, 4), only(api.RolledBack)},
		{"the greatest total, healthy", of(run, 1, 1, most, most/100, 4), of(run, 2, 0, 0, 0, 0)},
		{"more errors than samples", of(run, 1, 1, 10, 11, 4), only(api.RolledBack)},
		// An age that is at least the length closes the window; a negative one counts as 0.
		{"an age of the length", of(run, 1, 0, 10, 0, 5), of(run, 1, 1, 0, 0, 0)},
		{"a greater age", of(run, 1, 0, 10, 0, 1000), of(run, 1, 1, 0, 0, 0)},
		{"the greatest age", of(run, 1, 0, 10, 1, math.MaxInt), only(api.RolledBack)},
		{"a negative age", of(run, 1, 1, 30, 20, -1), of(run, 1, 1, 30, 20, 1)},
		{"the least age", of(run, 1, 1, 30, 20, math.MinInt), of(run, 1, 1, 30, 20, 1)},
		// There is no verdict on such counters: the window is closed, and that is all.
		{"a negative total", of(run, 1, 1, -1, 0, 4), of(run, 1, 1, 0, 0, 0)},
		{"a negative number of errors", of(run, 1, 1, 10, -1, 4), of(run, 1, 1, 0, 0, 0)},
		{"negative errors among few samples", of(run, 1, 1, 9, -1, 4), of(run, 1, 1, 0, 0, 0)},
		{"a total above the greatest count", of(run, 1, 1, most+1, 0, 4), of(run, 1, 1, 0, 0, 0)},
		{"errors above the greatest count", of(run, 1, 1, 10, most+1, 4), of(run, 1, 1, 0, 0, 0)},
		{"no verdict in a stage that is none", of(run, -7, -8, -1, -1, 4), of(run, -7, -8, 0, 0, 0)},
		// An open window keeps its counters, also such ones.
		{"such counters in an open window", of(run, 1, 1, -1, most+1, 3), of(run, 1, 1, -1, most+1, 4)},
		// The number of healthy windows ends a stage only where it becomes the Hold.
		{"already as many as the hold", of(run, 1, 2, 10, 0, 4), of(run, 1, 3, 0, 0, 0)},
		{"more than the hold", of(run, 2, 50, 10, 0, 4), of(run, 2, 51, 0, 0, 0)},
		{"more than the hold, and too few samples", of(run, 1, 50, 1, 0, 4), of(run, 1, 0, 0, 0, 0)},
		{"more than the hold, and failing", of(run, 1, 50, 10, 10, 4), only(api.RolledBack)},
		{"a negative number of healthy windows", of(run, 1, -1, 10, 0, 4), of(run, 1, 0, 0, 0, 0)},
		{"a number far below 0", of(run, 1, -5, 10, 0, 4), of(run, 1, -4, 0, 0, 0)},
		{"below 0, and too few samples", of(run, 1, -5, 9, 0, 4), of(run, 1, 0, 0, 0, 0)},
		{"the least number", of(run, 1, math.MinInt, 10, 0, 4), of(run, 1, math.MinInt+1, 0, 0, 0)},
		{"nearly the greatest number", of(run, 1, math.MaxInt-1, 10, 0, 4), of(run, 1, math.MaxInt, 0, 0, 0)},
		{"the greatest number", of(run, 1, math.MaxInt, 10, 0, 4), of(run, 1, math.MaxInt, 0, 0, 0)},
		// Stages that are none: there is a further one below the last, and none above it.
		{"the stage before the first", of(run, -1, 1, 10, 0, 4), of(run, 0, 0, 0, 0, 0)},
		{"a stage far before the first", of(run, -5, 1, 10, 0, 4), of(run, -4, 0, 0, 0, 0)},
		{"the least stage", of(run, math.MinInt, 1, 10, 0, 4), of(run, math.MinInt+1, 0, 0, 0, 0)},
		{"the stage behind the last", of(run, 3, 1, 10, 0, 4), only(api.Promoted)},
		{"the greatest stage", of(run, math.MaxInt, 1, 10, 0, 4), only(api.Promoted)},
		{"the greatest stage, not at its end", of(run, math.MaxInt, 0, 10, 0, 4), of(run, math.MaxInt, 1, 0, 0, 0)},
		// Nothing changes in any other state.
		{"idle", only(api.Idle), only(api.Idle)},
		{"idle with numbers", of(api.Idle, 1, 1, 10, 10, 4), of(api.Idle, 1, 1, 10, 10, 4)},
		{"promoted", only(api.Promoted), only(api.Promoted)},
		{"promoted with numbers", of(api.Promoted, 1, 1, 10, 10, 4), of(api.Promoted, 1, 1, 10, 10, 4)},
		{"rolled back", only(api.RolledBack), only(api.RolledBack)},
		{"rolled back with numbers", of(api.RolledBack, 2, 1, 10, 0, 4), of(api.RolledBack, 2, 1, 10, 0, 4)},
		{"paused", of(api.Paused, 1, 1, 30, 20, 2), of(api.Paused, 1, 1, 30, 20, 2)},
		{"paused before the end of a window", of(api.Paused, 1, 1, 30, 20, 4), of(api.Paused, 1, 1, 30, 20, 4)},
		{"paused behind the end of a window", of(api.Paused, 1, 1, 30, 20, 9), of(api.Paused, 1, 1, 30, 20, 9)},
		{"the state 5", of(5, 1, 1, 10, 10, 4), of(5, 1, 1, 10, 10, 4)},
		{"the state -1", of(-1, 1, 1, 10, 0, 4), of(-1, 1, 1, 10, 0, 4)},
		{"a state above 2^32", of(1<<32+1, 1, 1, 10, 0, 4), of(1<<32+1, 1, 1, 10, 0, 4)},
	} {
		if got := rollout.Tick(x.r, example()); got != x.want {
			t.Errorf("%s: Tick(%+v) = %+v, want %+v", x.name, x.r, got, x.want)
		}
		check(t, x.r, example())
	}
}

// The verdict is that of the plan on the window that was closed.
func TestTicksAroundTheShare(t *testing.T) {
	for _, x := range []struct {
		minSamples, num, den, total, errors int
		want                                api.Rollout
	}{
		{1, 0, 1, 0, 0, of(api.Running, 0, 0, 0, 0, 0)},
		{1, 0, 1, 1, 0, of(api.Running, 0, 4, 0, 0, 0)},
		{1, 0, 1, 1, 1, only(api.RolledBack)},
		{1, 0, 1, most, 0, of(api.Running, 0, 4, 0, 0, 0)},
		{1, 0, 1, most, 1, only(api.RolledBack)},
		{1, 1, 1, 5, 5, of(api.Running, 0, 4, 0, 0, 0)},
		{1, 1, 1, 5, 6, only(api.RolledBack)},
		{2, 1, 2, 1, 1, of(api.Running, 0, 0, 0, 0, 0)},
		{2, 1, 2, 2, 1, of(api.Running, 0, 4, 0, 0, 0)},
		{2, 1, 2, 2, 2, only(api.RolledBack)},
		{2, 1, 2, 3, 1, of(api.Running, 0, 4, 0, 0, 0)},
		{2, 1, 2, 3, 2, only(api.RolledBack)},
		{1000000, 1, 3, 999999, 999999, of(api.Running, 0, 0, 0, 0, 0)},
		{1000000, 1, 3, 1000000, 333333, of(api.Running, 0, 4, 0, 0, 0)},
		{1000000, 1, 3, 1000000, 333334, only(api.RolledBack)},
		{1, 1000000, 1, 1, 1000000, of(api.Running, 0, 4, 0, 0, 0)},
		{1, 1000000, 1, 1, 1000001, only(api.RolledBack)},
		{1, 999999, 1000000, most, 999999000, of(api.Running, 0, 4, 0, 0, 0)},
		{1, 999999, 1000000, most, 999999001, only(api.RolledBack)},
	} {
		p := planOf([]int{1, 2}, x.minSamples, x.num, x.den, 100, 1)
		r := of(api.Running, 0, 3, x.total, x.errors, 0)
		if got := rollout.Tick(r, p); got != x.want {
			t.Errorf("Tick(%+v, %+v) = %+v, want %+v", r, p, got, x.want)
		}
		checkTick(t, r, p)
	}
}

// A window is closed by the tick with which it is as old as the plan says.
func TestTicksOfAWindow(t *testing.T) {
	for _, length := range []int{1, 2, 3, 10, 100, 65536, 999999, 1000000} {
		p := planOf([]int{1, 2, 3}, 1, 0, 1, 100, length)
		for _, age := range []int{0, 1, 2, length/2 - 1, length / 2, length - 3, length - 2, length - 1, length, length + 1} {
			r := of(api.Running, 1, 7, 5, 0, age)
			want := of(api.Running, 1, 7, 5, 0, max(age, 0)+1)
			if want.Window.Age >= length {
				want = of(api.Running, 1, 8, 0, 0, 0)
			}
			if got := rollout.Tick(r, p); got != want {
				t.Errorf("Tick(%+v, %+v) = %+v, want %+v", r, p, got, want)
			}
			checkTick(t, r, p)
		}
	}
}

// A stage ends with the window with which as many are healthy as the plan says.
func TestTicksOfAStage(t *testing.T) {
	for hold := 1; hold <= 100; hold++ {
		for stages := 1; stages <= 8; stages++ {
			p := planOf([]int{1, 20, 300, 4000, 5000, 6000, 7000, 8000}[:stages], 1, 0, 1, hold, 1)
			for stage := range stages {
				for healthy := range hold {
					want := of(api.Running, stage, healthy+1, 0, 0, 0)
					if healthy == hold-1 {
						want = of(api.Running, stage+1, 0, 0, 0, 0)
						if stage == stages-1 {
							want = only(api.Promoted)
						}
					}
					r := of(api.Running, stage, healthy, 1, 0, 0)
					if got := rollout.Tick(r, p); got != want {
						t.Fatalf("Tick(%+v, %+v) = %+v, want %+v", r, p, got, want)
					}
				}
			}
		}
	}
}

// All small rollouts with a few plans.
func TestSmallTicks(t *testing.T) {
	for _, p := range []api.Plan{example(), swift(1), swift(1, 2), planOf([]int{5, 6}, 2, 1, 2, 2, 1), planOf([]int{10000}, 1, 1, 1, 3, 2)} {
		for state := -1; state <= 5; state++ {
			for stage := -2; stage <= 4; stage++ {
				for healthy := -2; healthy <= 4; healthy++ {
					for total := -1; total <= 3; total++ {
						for errors := -1; errors <= 4; errors++ {
							for age := -1; age <= 5; age++ {
								r := of(state, stage, healthy, total, errors, age)
								if got, want := rollout.Tick(r, p), wantTick(r, p); got != want {
									t.Fatalf("Tick(%+v, %+v) = %+v, want %+v", r, p, got, want)
								}
							}
						}
					}
				}
			}
		}
	}
}

// Each number of a rollout alone, with windows of every verdict.
func TestTicksOfNumbers(t *testing.T) {
	p := example()
	for _, x := range numbers() {
		for _, w := range []api.Window{{Total: 9, Age: 4}, {Total: 10, Age: 4}, {Total: 10, Errors: 1, Age: 4}, {Total: -1, Age: 4}, {Total: 10, Age: 3}} {
			checkTick(t, of(x, 1, 1, w.Total, w.Errors, w.Age), p)
			for _, healthy := range []int{0, 1} {
				checkTick(t, of(api.Running, x, healthy, w.Total, w.Errors, w.Age), p)
			}
			checkTick(t, of(api.Running, 1, x, w.Total, w.Errors, w.Age), p)
			checkTick(t, of(api.Running, 1, 1, x, w.Errors, w.Age), p)
			checkTick(t, of(api.Running, 1, 1, w.Total, x, w.Age), p)
			checkTick(t, of(api.Running, 1, 1, w.Total, w.Errors, x), p)
		}
	}
}

func TestTicksOfArbitraryRollouts(t *testing.T) {
	r := rand.New(rand.NewSource(4))
	for range 100000 {
		p := anyPlan(r)
		checkTick(t, possible(r, p), p)
		checkTick(t, anyRollout(r), p)
		mixed := anyRollout(r)
		mixed.Window = possible(r, p).Window
		checkTick(t, mixed, p)
		mixed = possible(r, p)
		mixed.Window = anyRollout(r).Window
		checkTick(t, mixed, p)
	}
}

// P18.4

func TestWeight(t *testing.T) {
	for _, x := range []struct {
		r    api.Rollout
		want int
	}{
		{only(api.Idle), 0},
		{of(api.Idle, 1, 0, 0, 0, 0), 0},
		{only(api.Running), 100},
		{of(api.Running, 1, 0, 0, 0, 0), 1000},
		{of(api.Running, 2, 0, 0, 0, 0), 5000},
		{of(api.Running, 3, 0, 0, 0, 0), 0},
		{of(api.Running, -1, 0, 0, 0, 0), 0},
		{of(api.Running, math.MaxInt, 0, 0, 0, 0), 0},
		{of(api.Running, math.MinInt, 0, 0, 0, 0), 0},
		{of(api.Running, 1<<32, 0, 0, 0, 0), 0},
		{of(api.Running, 1, 1, 100, 100, 4), 1000},
		{only(api.Paused), 100},
		{of(api.Paused, 1, 0, 0, 0, 0), 1000},
		{of(api.Paused, 2, 0, 0, 0, 0), 5000},
		{of(api.Paused, 3, 0, 0, 0, 0), 0},
		{of(api.Paused, -1, 0, 0, 0, 0), 0},
		{of(api.Paused, 1, 1, 100, 100, 4), 1000},
		{only(api.Promoted), 10000},
		{of(api.Promoted, 1, 1, 100, 100, 4), 10000},
		{of(api.Promoted, -1, 0, 0, 0, 0), 10000},
		{only(api.RolledBack), 0},
		{of(api.RolledBack, 1, 1, 100, 0, 4), 0},
		{of(5, 1, 0, 0, 0, 0), 0},
		{of(-1, 1, 0, 0, 0, 0), 0},
		{of(1<<32+api.Running, 1, 0, 0, 0, 0), 0},
		{of(1<<32+api.Promoted, 1, 0, 0, 0, 0), 0},
	} {
		if got := rollout.Weight(x.r, example()); got != x.want {
			t.Errorf("Weight(%+v) = %d, want %d", x.r, got, x.want)
		}
		checkWeight(t, x.r, example())
	}
}

func TestWeightsOfNumbers(t *testing.T) {
	for _, x := range numbers() {
		checkWeight(t, of(x, 1, 1, 10, 1, 4), example())
		for _, state := range states() {
			checkWeight(t, of(state, x, 1, 10, 1, 4), example())
			checkWeight(t, of(state, 1, x, x, x, x), example())
		}
	}
}

func TestWeightsOfArbitraryRollouts(t *testing.T) {
	r := rand.New(rand.NewSource(5))
	for range 50000 {
		p := anyPlan(r)
		checkWeight(t, anyRollout(r), p)
		x := possible(r, p)
		checkWeight(t, x, p)
		for stage := -1; stage <= len(p.Weights); stage++ {
			x.Stage = stage
			checkWeight(t, x, p)
		}
	}
}

// P18.5

func TestStep(t *testing.T) {
	running := of(api.Running, 1, 1, 10, 0, 4)
	for _, x := range []struct {
		r, want api.Rollout
		input   api.Input
	}{
		{running, of(api.Running, 2, 0, 0, 0, 0), input(api.InputTick)},
		{running, of(api.Running, 1, 1, 11, 0, 4), input(api.InputGood)},
		{running, of(api.Running, 1, 1, 11, 1, 4), input(api.InputBad)},
		{running, of(api.Paused, 1, 1, 10, 0, 4), command(api.CmdPause)},
		{running, only(api.Promoted), command(api.CmdPromote)},
		{running, only(api.RolledBack), command(api.CmdAbort)},
		{running, only(api.Idle), command(api.CmdReset)},
		{only(api.Idle), only(api.Running), command(api.CmdStart)},
		{of(api.Paused, 1, 1, 10, 0, 4), running, command(api.CmdResume)},
		// A command that is not possible changes nothing, and one that is unknown does not, either.
		{running, running, command(api.CmdStart)},
		{running, running, command(api.CmdResume)},
		{running, running, command(0)},
		{running, running, command(7)},
		{running, running, command(-1)},
		{running, running, command(math.MaxInt)},
		{of(7, 1, 1, 10, 0, 4), of(7, 1, 1, 10, 0, 4), command(api.CmdStart)},
		{of(api.RolledBack, 1, 1, 10, 0, 4), of(api.RolledBack, 1, 1, 10, 0, 4), command(api.CmdAbort)},
		// There is no such kind of input.
		{running, running, input(0)},
		{running, running, input(5)},
		{running, running, input(-1)},
		{running, running, input(math.MinInt)},
		{running, running, input(1<<32 + api.InputTick)},
		{running, running, api.Input{Kind: 0, Command: api.CmdAbort}},
		{running, running, api.Input{Kind: 5, Command: api.CmdReset}},
		// The command of another kind of input does not matter.
		{running, of(api.Running, 2, 0, 0, 0, 0), api.Input{Kind: api.InputTick, Command: api.CmdAbort}},
		{running, of(api.Running, 1, 1, 11, 0, 4), api.Input{Kind: api.InputGood, Command: api.CmdReset}},
		{running, of(api.Running, 1, 1, 11, 1, 4), api.Input{Kind: api.InputBad, Command: -1}},
	} {
		if got := rollout.Step(x.r, example(), x.input); got != x.want {
			t.Errorf("Step(%+v, %+v) = %+v, want %+v", x.r, x.input, got, x.want)
		}
		checkStep(t, x.r, example(), x.input)
	}
}

func TestStepsOfNumbers(t *testing.T) {
	for _, n := range numbers() {
		for _, state := range append(states(), 5, -1) {
			r := of(state, 1, 1, 10, 0, 4)
			checkStep(t, r, example(), input(n))
			checkStep(t, r, example(), command(n))
			checkStep(t, r, example(), api.Input{Kind: n, Command: api.CmdReset})
			checkStep(t, r, example(), api.Input{Kind: n, Command: n})
		}
	}
}

func TestStepsOfArbitraryRollouts(t *testing.T) {
	r := rand.New(rand.NewSource(6))
	for range 20000 {
		p := anyPlan(r)
		check(t, anyRollout(r), p)
		check(t, possible(r, p), p)
		checkStep(t, anyRollout(r), p, api.Input{Kind: anyNumber(r), Command: anyNumber(r)})
		checkStep(t, possible(r, p), p, api.Input{Kind: r.Intn(6), Command: anyNumber(r)})
	}
}

func TestRun(t *testing.T) {
	tick, good, bad := input(api.InputTick), input(api.InputGood), input(api.InputBad)
	start, pause, resume := command(api.CmdStart), command(api.CmdPause), command(api.CmdResume)
	promote, abort, reset := command(api.CmdPromote), command(api.CmdAbort), command(api.CmdReset)
	two := planOf([]int{100, 200}, 2, 1, 2, 2, 2)
	for name, x := range map[string]struct {
		p    api.Plan
		l    []api.Input
		want api.Rollout
	}{
		// The examples.
		"good": {swift(100), []api.Input{start, good, tick}, only(api.Promoted)},
		"bad":  {swift(100), []api.Input{start, bad, tick}, only(api.RolledBack)},

		"nothing":                       {swift(100), nil, only(api.Idle)},
		"an empty list":                 {swift(100), []api.Input{}, only(api.Idle)},
		"no start":                      {swift(100), []api.Input{good, tick, bad, pause, resume, promote, abort, tick}, only(api.Idle)},
		"a start":                       {swift(100), []api.Input{start}, only(api.Running)},
		"two starts":                    {swift(100), []api.Input{start, good, start}, of(api.Running, 0, 0, 1, 0, 0)},
		"samples before the start":      {swift(100), []api.Input{bad, bad, start}, only(api.Running)},
		"no samples":                    {swift(100), []api.Input{start, tick, tick, tick}, only(api.Running)},
		"good, and later bad":           {swift(100), []api.Input{start, good, tick, bad, tick}, only(api.Promoted)},
		"good and bad":                  {swift(100), []api.Input{start, good, bad, tick}, only(api.RolledBack)},
		"a start after a rollback":      {swift(100), []api.Input{start, bad, tick, start, good, tick}, only(api.RolledBack)},
		"a promotion after a rollback":  {swift(100), []api.Input{start, bad, tick, promote, resume, abort}, only(api.RolledBack)},
		"a reset after a rollback":      {swift(100), []api.Input{start, bad, tick, reset}, only(api.Idle)},
		"a new start":                   {swift(100), []api.Input{start, bad, tick, reset, start, good, tick}, only(api.Promoted)},
		"an abort after a promotion":    {swift(100), []api.Input{start, good, tick, abort}, only(api.RolledBack)},
		"a promotion by command":        {swift(100), []api.Input{start, promote, bad, tick}, only(api.Promoted)},
		"a promotion while paused":      {swift(100), []api.Input{start, pause, promote}, only(api.Promoted)},
		"a pause":                       {swift(100), []api.Input{start, bad, pause, tick, good, tick}, of(api.Paused, 0, 0, 1, 1, 0)},
		"a pause and then the verdict":  {swift(100), []api.Input{start, bad, pause, tick, resume, tick}, only(api.RolledBack)},
		"a pause without samples":       {swift(100), []api.Input{start, pause, bad, bad, resume, good, tick}, only(api.Promoted)},
		"a reset forgets samples":       {swift(100), []api.Input{start, bad, reset, start, good, tick}, only(api.Promoted)},
		"two stages":                    {swift(100, 200), []api.Input{start, good, tick}, of(api.Running, 1, 0, 0, 0, 0)},
		"two stages, both good":         {swift(100, 200), []api.Input{start, good, tick, good, tick}, only(api.Promoted)},
		"two stages, the second bad":    {swift(100, 200), []api.Input{start, good, tick, bad, tick}, only(api.RolledBack)},
		"a tick within a window":        {two, []api.Input{start, good, good, tick}, of(api.Running, 0, 0, 2, 0, 1)},
		"samples between the ticks":     {two, []api.Input{start, good, tick, good, tick}, of(api.Running, 0, 1, 0, 0, 0)},
		"one sample is too few":         {two, []api.Input{start, good, tick, tick}, only(api.Running)},
		"one bad sample is too few":     {two, []api.Input{start, bad, tick, tick}, only(api.Running)},
		"half of them bad":              {two, []api.Input{start, good, tick, bad, tick}, of(api.Running, 0, 1, 0, 0, 0)},
		"both of them bad":              {two, []api.Input{start, bad, tick, bad, tick}, only(api.RolledBack)},
		"two windows":                   {two, []api.Input{start, good, good, tick, tick, good, bad, tick, tick}, of(api.Running, 1, 0, 0, 0, 0)},
		"a thin window interrupts them": {two, []api.Input{start, good, good, tick, tick, good, tick, tick, good, good, tick, tick}, of(api.Running, 0, 1, 0, 0, 0)},
		"a pause does not":              {two, []api.Input{start, good, good, tick, tick, good, tick, pause, tick, bad, tick, resume, good, tick}, of(api.Running, 1, 0, 0, 0, 0)},
		"unknown inputs":                {swift(100), []api.Input{input(0), start, input(9), command(0), good, command(7), input(-1), tick}, only(api.Promoted)},
	} {
		if got := rollout.Run(x.p, x.l...); got != x.want {
			t.Errorf("%s: Run = %+v, want %+v", name, got, x.want)
		}
		checkRun(t, x.p, x.l...)
	}
}

// everyInput returns all inputs that are known, and behind them two that are not.
func everyInput() []api.Input {
	return []api.Input{
		input(api.InputTick), input(api.InputGood), input(api.InputBad),
		command(api.CmdStart), command(api.CmdPause), command(api.CmdResume),
		command(api.CmdPromote), command(api.CmdAbort), command(api.CmdReset),
		command(0), input(0),
	}
}

// All lists of up to five inputs that are known, alone and behind others.
func TestRunOfShortLists(t *testing.T) {
	lists := [][]api.Input{nil}
	for range 5 {
		var longer [][]api.Input
		for _, l := range lists {
			for _, x := range everyInput()[:9] {
				longer = append(longer, append(slices.Clone(l), x))
			}
		}
		for _, p := range []api.Plan{swift(5), swift(5, 6), planOf([]int{7, 8}, 1, 1, 2, 2, 1), planOf([]int{9}, 1, 1, 2, 1, 2)} {
			for _, l := range longer {
				for _, before := range [][]api.Input{nil, {command(api.CmdStart)}, {command(api.CmdStart), input(api.InputGood), input(api.InputTick)}} {
					l := append(before, l...)
					if got, want := rollout.Run(p, l...), wantRun(p, l...); got != want {
						t.Fatalf("Run(%+v, %+v) = %+v, want %+v", p, l, got, want)
					}
				}
			}
		}
		lists = longer
	}
}

// gentle returns a plan with which short runs get somewhere.
func gentle(r *rand.Rand) api.Plan {
	p := planOf([]int{1, 20, 300, 4000, 5000, 6000, 7000, 8000}[:1+r.Intn(8)], 1+r.Intn(3), r.Intn(4), 1+r.Intn(5), 1+r.Intn(3), 1+r.Intn(3))
	if r.Intn(2) == 0 {
		p.Num, p.Den = 9, 10
	}
	return p
}

// inputs returns arbitrary inputs, of which most are samples and ticks.
func inputs(r *rand.Rand, n int) []api.Input {
	l := make([]api.Input, n)
	fails := 1 + r.Intn(30)
	for i := range l {
		switch x := r.Intn(60); {
		case x < 20:
			l[i] = input(api.InputTick)
		case x < 54 && r.Intn(fails) == 0:
			l[i] = input(api.InputBad)
		case x < 54:
			l[i] = input(api.InputGood)
		default:
			l[i] = everyInput()[3+r.Intn(8)]
		}
		if r.Intn(20) == 0 {
			l[i] = command(api.CmdStart)
		}
	}
	return l
}

func TestRunOfArbitraryLists(t *testing.T) {
	r := rand.New(rand.NewSource(7))
	for range 5000 {
		checkRun(t, gentle(r), inputs(r, r.Intn(100))...)
		l := inputs(r, r.Intn(20))
		for i := range l {
			if r.Intn(5) == 0 {
				l[i] = api.Input{Kind: anyNumber(r), Command: anyNumber(r)}
			}
		}
		checkRun(t, anyPlan(r), l...)
	}
}

// A run is a step for each input, from a zero rollout on.
func TestRunIsSteps(t *testing.T) {
	r := rand.New(rand.NewSource(8))
	for range 500 {
		p, l := gentle(r), inputs(r, 100)
		var x api.Rollout
		for i := range l {
			if got := rollout.Run(p, l[:i]...); got != x {
				t.Fatalf("Run(%+v, %+v) = %+v, want %+v", p, l[:i], got, x)
			}
			x = rollout.Step(x, p, l[i])
		}
	}
}

func TestRunOfLongLists(t *testing.T) {
	// A window of a million ticks, in which there is one sample.
	p := planOf([]int{1, 2}, 1, 0, 1, 1, 1000000)
	l := append([]api.Input{command(api.CmdStart), input(api.InputGood)}, slices.Repeat([]api.Input{input(api.InputTick)}, 1000000)...)
	if got := rollout.Run(p, l[:len(l)-1]...); got != of(api.Running, 0, 0, 1, 0, 999999) {
		t.Errorf("one tick before the end: %+v", got)
	}
	if got := rollout.Run(p, l...); got != of(api.Running, 1, 0, 0, 0, 0) {
		t.Errorf("at the end: %+v", got)
	}
	// A million samples, one of them bad, are just healthy.
	p = planOf([]int{1, 2}, 1000000, 1, 1000000, 1, 1)
	l = append([]api.Input{command(api.CmdStart), input(api.InputBad)}, slices.Repeat([]api.Input{input(api.InputGood)}, 999999)...)
	if got := rollout.Run(p, l...); got != of(api.Running, 0, 0, 1000000, 1, 0) {
		t.Errorf("a million samples: %+v", got)
	}
	if got := rollout.Run(p, append(l, input(api.InputTick))...); got != of(api.Running, 1, 0, 0, 0, 0) {
		t.Errorf("a million samples and a tick: %+v", got)
	}
	if got := rollout.Run(p, append(l, input(api.InputBad), input(api.InputTick))...); got != only(api.RolledBack) {
		t.Errorf("a million samples, a bad one and a tick: %+v", got)
	}
	// Commands that are not possible.
	l = slices.Repeat([]api.Input{command(api.CmdStart), command(api.CmdResume)}, 100000)
	if got := rollout.Run(p, l...); got != only(api.Running) {
		t.Errorf("many commands: %+v", got)
	}
}

// A rollout of any number of stages is promoted by the last of the windows that it needs.
func TestRunOfAllStages(t *testing.T) {
	for stages := 1; stages <= 8; stages++ {
		for _, hold := range []int{1, 2, 3, 99, 100} {
			p := planOf([]int{1, 20, 300, 4000, 5000, 6000, 7000, 10000}[:stages], 3, 1, 3, hold, 2)
			l := []api.Input{command(api.CmdStart)}
			window := []api.Input{input(api.InputGood), input(api.InputBad), input(api.InputTick), input(api.InputGood), input(api.InputTick)}
			for n := range stages * hold {
				r := rollout.Run(p, l...)
				if r != of(api.Running, n/hold, n%hold, 0, 0, 0) || rollout.Weight(r, p) != p.Weights[n/hold] {
					t.Fatalf("%d windows with %+v: %+v", n, p, r)
				}
				l = append(l, window...)
			}
			if r := rollout.Run(p, l[:len(l)-1]...); r.State != api.Running {
				t.Fatalf("one tick before the end with %+v: %+v", p, r)
			}
			if r := rollout.Run(p, l...); r != only(api.Promoted) {
				t.Fatalf("at the end with %+v: %+v", p, r)
			}
		}
	}
}

// P18.6

// history is what a test remembers of a rollout that goes on: the ticks, samples and
// errors of its present window, and how many windows in succession were healthy, in the
// present stage, and in each of the stages before when it was left.
type history struct {
	ticks, samples, errors int
	healthy                int
	left                   []int
}

// verdict returns the verdict with which the next tick closes the window, or open.
func (h *history) verdict(p api.Plan) string {
	switch {
	case h.ticks+1 < p.Window:
		return open
	case h.samples < p.MinSamples:
		return thin
	case h.errors*p.Den > p.Num*h.samples:
		return failing
	}
	return healthy
}

// add adds an input to the history of a rollout that is running.
func (h *history) add(p api.Plan, x api.Input) {
	switch x.Kind {
	case api.InputGood:
		h.samples++
	case api.InputBad:
		h.samples++
		h.errors++
	case api.InputTick:
		h.tick(p)
	}
}

func (h *history) tick(p api.Plan) {
	switch h.verdict(p) {
	case open:
		h.ticks++
		return
	case healthy:
		h.healthy++
	default:
		h.healthy = 0
	}
	h.ticks, h.samples, h.errors = 0, 0, 0
}

// move adds that a stage is left.
func (h *history) move() {
	h.left, h.healthy = append(h.left, h.healthy), 0
}

const open = "open"

func goesOn(r api.Rollout) bool {
	return r.State == api.Running || r.State == api.Paused
}

// checkRollback reports a failing window that does not lead to a rollback, one without
// such a window or a command, and a rollout that leaves that state without a reset.
func checkRollback(t *testing.T, p api.Plan, h history, r, next api.Rollout, x api.Input) {
	t.Helper()
	failed := r.State == api.Running && x.Kind == api.InputTick && h.verdict(p) == failing
	aborted := x == command(api.CmdAbort)
	if failed && next != only(api.RolledBack) || next.State == api.RolledBack && r.State != api.RolledBack && !failed && !aborted {
		t.Fatalf("%+v with %+v and %+v after %+v: %+v", r, h, p, x, next)
	}
	if r.State == api.RolledBack && next != r && x != command(api.CmdReset) {
		t.Fatalf("%+v after %+v: %+v", r, x, next)
	}
}

// checkWeights reports a weight that is above 0 after a rollback, and one that falls.
func checkWeights(t *testing.T, p api.Plan, r, next api.Rollout) {
	t.Helper()
	before, after := rollout.Weight(r, p), rollout.Weight(next, p)
	if next.State == api.RolledBack && after != 0 || goesOn(r) && goesOn(next) && after < before {
		t.Fatalf("%+v and %+v: the weights %d and %d", r, next, before, after)
	}
}

// checkConsequences carries out inputs, compares what becomes of the rollout with its
// history, and returns how often it was promoted and rolled back without a command.
func checkConsequences(t *testing.T, p api.Plan, l []api.Input) (promoted, rolledBack int) {
	t.Helper()
	var r api.Rollout
	var h history
	for _, x := range l {
		next := rollout.Step(r, p, x)
		checkRollback(t, p, h, r, next, x)
		checkWeights(t, p, r, next)
		if r.State == api.Running {
			h.add(p, x)
		}
		// The weight shows when a stage is left.
		if x.Kind == api.InputTick && rollout.Weight(next, p) > rollout.Weight(r, p) {
			h.move()
		}
		if changed := next.State != r.State && x.Kind != api.InputCommand; changed && next.State == api.RolledBack {
			rolledBack++
		} else if changed {
			promoted++
			if next != only(api.Promoted) || !slices.Equal(h.left, slices.Repeat([]int{p.Hold}, len(p.Weights))) {
				t.Fatalf("%+v with %+v and %+v after %+v: %+v", r, h, p, x, next)
			}
		}
		if r = next; !goesOn(r) {
			h = history{}
		}
	}
	return promoted, rolledBack
}

func TestConsequences(t *testing.T) {
	r := rand.New(rand.NewSource(9))
	promoted, rolledBack := 0, 0
	for range 10000 {
		x, y := checkConsequences(t, gentle(r), inputs(r, 300))
		promoted, rolledBack = promoted+x, rolledBack+y
	}
	if promoted < 1000 || rolledBack < 1000 {
		t.Errorf("%d promotions and %d rollbacks are too few", promoted, rolledBack)
	}
}

// A window with too many errors leads to a rollback, from every stage and with every plan.
func TestFailingWindowsRollBack(t *testing.T) {
	r := rand.New(rand.NewSource(10))
	n := 0
	for range 50000 {
		p := anyPlan(r)
		total := p.MinSamples + r.Intn(1000)
		errors := p.Num*total/p.Den + 1
		if errors > total {
			continue
		}
		n++
		x := of(api.Running, r.Intn(len(p.Weights)), r.Intn(p.Hold), total, errors, p.Window-1)
		if got := rollout.Tick(x, p); got != only(api.RolledBack) {
			t.Fatalf("Tick(%+v, %+v) = %+v", x, p, got)
		}
		x.Window.Errors--
		if got := rollout.Tick(x, p); got.State == api.RolledBack {
			t.Fatalf("Tick(%+v, %+v) = %+v", x, p, got)
		}
	}
	if n < 10000 {
		t.Errorf("only %d plans", n)
	}
}

// After a rollback nothing but a reset changes the rollout, and no bucket goes to canary.
func TestRolledBackUntilReset(t *testing.T) {
	r := rand.New(rand.NewSource(11))
	for range 5000 {
		p := gentle(r)
		x := only(api.RolledBack)
		for _, y := range inputs(r, 50) {
			if y == command(api.CmdReset) {
				continue
			}
			x = rollout.Step(x, p, y)
			if x != only(api.RolledBack) || rollout.Weight(x, p) != 0 {
				t.Fatalf("%+v after %+v: the weight %d", x, y, rollout.Weight(x, p))
			}
		}
		if x = rollout.Step(x, p, command(api.CmdReset)); x != only(api.Idle) || rollout.Weight(x, p) != 0 {
			t.Fatalf("%+v after the reset", x)
		}
	}
}

// A single window that is not healthy, wherever it comes, delays the promotion by what it
// has interrupted, or prevents it.
func TestInterruptedPromotions(t *testing.T) {
	const hold, stages = 4, 3
	p := planOf([]int{10, 20, 30}, 2, 1, 2, hold, 1)
	good := []api.Input{input(api.InputGood), input(api.InputGood), input(api.InputTick)}
	thin := []api.Input{input(api.InputGood), input(api.InputTick)}
	bad := []api.Input{input(api.InputBad), input(api.InputBad), input(api.InputTick)}
	for at := range hold * stages {
		before := append([]api.Input{command(api.CmdStart)}, slices.Repeat(good, at)...)
		l := append(slices.Clone(before), thin...)
		missing := hold*stages - at + at%hold
		for n := range missing {
			if r := rollout.Run(p, append(slices.Clone(l), slices.Repeat(good, n)...)...); r.State != api.Running {
				t.Fatalf("%d healthy windows, a thin one and %d healthy ones: %+v", at, n, r)
			}
		}
		if r := rollout.Run(p, append(slices.Clone(l), slices.Repeat(good, missing)...)...); r != only(api.Promoted) {
			t.Fatalf("%d healthy windows, a thin one and %d healthy ones: %+v", at, missing, r)
		}
		l = append(append(slices.Clone(before), bad...), slices.Repeat(good, 100)...)
		if r := rollout.Run(p, l...); r != only(api.RolledBack) {
			t.Fatalf("%d healthy windows and a failing one: %+v", at, r)
		}
	}
}

// The weight of a rollout that goes on does not fall, wherever it comes from.
func TestWeightsDoNotFall(t *testing.T) {
	r := rand.New(rand.NewSource(12))
	for range 20000 {
		p := anyPlan(r)
		mixed := anyRollout(r)
		mixed.Stage = r.Intn(12) - 2
		for _, x := range []api.Rollout{possible(r, p), anyRollout(r), mixed} {
			for _, y := range everyInput() {
				checkWeights(t, p, x, rollout.Step(x, p, y))
			}
		}
	}
}

// R1 and R2 for plans that are not valid: nothing more is promised about them.

func TestInvalidPlans(t *testing.T) {
	r := rand.New(rand.NewSource(13))
	for range 50000 {
		p := api.Plan{MinSamples: anyNumber(r), Num: anyNumber(r), Den: anyNumber(r), Hold: anyNumber(r), Window: anyNumber(r)}
		if r.Intn(2) == 0 {
			p = anyPlan(r)
		}
		p.Weights = make([]int, r.Intn(12))
		for i := range p.Weights {
			p.Weights[i] = anyNumber(r)
		}
		own, memory := guarded(p)
		x := anyRollout(r)
		if r.Intn(2) == 0 {
			x.State = api.Running
		}
		rollout.Tick(x, own)
		rollout.Weight(x, own)
		rollout.Step(x, own, everyInput()[r.Intn(len(everyInput()))])
		l := inputs(r, 20)
		before := slices.Clone(l)
		rollout.Run(own, l...)
		checkMemory(t, p, memory)
		if !slices.Equal(l, before) {
			t.Fatalf("Run has changed %+v: %+v", before, l)
		}
	}
	rollout.Run(api.Plan{}, command(api.CmdStart), input(api.InputGood), input(api.InputTick))
}
