package plan_test

import (
	"math"
	"math/rand"
	"slices"
	"testing"

	"canary/api"
	"canary/plan"
)

// Each promise is checked on named cases, on numbers around every limit, around the
// powers of 2 and 10 and at both ends of int, on all short lists of the weights that
// matter, on windows around the share of errors of a plan, and on arbitrary numbers and
// lists, also outside the limits, against an oracle that calls no other layer.

// example returns a plan with the least number of samples and the share of the examples.
func example() api.Plan {
	return planOf([]int{100, 1000, 10000}, 10, 1, 100, 2, 5)
}

func planOf(weights []int, minSamples, num, den, hold, window int) api.Plan {
	return api.Plan{Weights: weights, MinSamples: minSamples, Num: num, Den: den, Hold: hold, Window: window}
}

// share returns a plan with one stage, and with this least number and share.
func share(minSamples, num, den int) api.Plan {
	return planOf([]int{100}, minSamples, num, den, 1, 1)
}

// number is one of the numbers of a plan, with its limits.
type number struct {
	name        string
	least, most int
	set         func(p *api.Plan, n int)
}

func numbersOfPlan() []number {
	return []number{
		{"MinSamples", 1, 1000000, func(p *api.Plan, n int) { p.MinSamples = n }},
		{"Num", 0, 1000000, func(p *api.Plan, n int) { p.Num = n }},
		{"Den", 1, 1000000, func(p *api.Plan, n int) { p.Den = n }},
		{"Hold", 1, 100, func(p *api.Plan, n int) { p.Hold = n }},
		{"Window", 1, 1000000, func(p *api.Plan, n int) { p.Window = n }},
	}
}

// numbers returns the same numbers in every run: small ones, those around the limits and
// around the powers of 2 and 10, the extremes, and arbitrary ones.
func numbers() []int {
	l := []int{math.MinInt, math.MinInt + 1, math.MaxInt - 1, math.MaxInt}
	for n := -20; n <= 20; n++ {
		l = append(l, n, 100+n, 10000+n, 1000000+n, api.MaxCount+n)
	}
	for _, base := range []int{2, 10} {
		for p := 1; ; p *= base {
			l = append(l, p-1, p, p+1, -p-1, -p, -p+1)
			if p > math.MaxInt/base {
				break
			}
		}
	}
	r := rand.New(rand.NewSource(1))
	for range 100 {
		l = append(l, int(r.Uint64()), int(r.Uint64()>>r.Intn(64)))
	}
	return l
}

// ascending returns n weights, each from 1 to Buckets and above the preceding one.
func ascending(r *rand.Rand, n int) []int {
	from := map[int]bool{}
	for len(from) < n {
		from[1+r.Intn(api.Buckets)] = true
	}
	var l []int
	for weight := range from {
		l = append(l, weight)
	}
	slices.Sort(l)
	return l
}

// arbitrary returns a valid plan.
func arbitrary(r *rand.Rand) api.Plan {
	p := api.Plan{Weights: ascending(r, 1+r.Intn(8))}
	for _, x := range numbersOfPlan() {
		most := x.most
		if r.Intn(2) == 0 {
			most = min(most, x.least+r.Intn(200))
		}
		x.set(&p, x.least+r.Intn(most-x.least+1))
	}
	return p
}

// P16.1

func TestPlansByName(t *testing.T) {
	for name, x := range map[string]struct {
		change func(p *api.Plan)
		want   api.Errno
	}{
		"the example":         {func(p *api.Plan) {}, api.OK},
		"zero":                {func(p *api.Plan) { *p = api.Plan{} }, api.ErrConfig},
		"no weights":          {func(p *api.Plan) { p.Weights = nil }, api.ErrConfig},
		"empty weights":       {func(p *api.Plan) { p.Weights = []int{} }, api.ErrConfig},
		"one weight":          {func(p *api.Plan) { p.Weights = []int{5} }, api.OK},
		"eight weights":       {func(p *api.Plan) { p.Weights = []int{1, 2, 3, 4, 5, 6, 7, 8} }, api.OK},
		"nine weights":        {func(p *api.Plan) { p.Weights = []int{1, 2, 3, 4, 5, 6, 7, 8, 9} }, api.ErrConfig},
		"the least weight":    {func(p *api.Plan) { p.Weights = []int{1} }, api.OK},
		"a weight of 0":       {func(p *api.Plan) { p.Weights = []int{0} }, api.ErrConfig},
		"a negative weight":   {func(p *api.Plan) { p.Weights = []int{-1} }, api.ErrConfig},
		"0 before others":     {func(p *api.Plan) { p.Weights = []int{0, 1} }, api.ErrConfig},
		"negative first":      {func(p *api.Plan) { p.Weights = []int{-5, 5} }, api.ErrConfig},
		"the greatest weight": {func(p *api.Plan) { p.Weights = []int{10000} }, api.OK},
		"a greater weight":    {func(p *api.Plan) { p.Weights = []int{10001} }, api.ErrConfig},
		"greater at the end":  {func(p *api.Plan) { p.Weights = []int{1, 9999, 10001} }, api.ErrConfig},
		"greater in between":  {func(p *api.Plan) { p.Weights = []int{1, 10001, 10} }, api.ErrConfig},
		"neighbours":          {func(p *api.Plan) { p.Weights = []int{1, 2, 9999, 10000} }, api.OK},
		"equal weights":       {func(p *api.Plan) { p.Weights = []int{5, 5} }, api.ErrConfig},
		"equal greatest":      {func(p *api.Plan) { p.Weights = []int{10000, 10000} }, api.ErrConfig},
		"falling weights":     {func(p *api.Plan) { p.Weights = []int{6, 5} }, api.ErrConfig},
		"a fall at the end":   {func(p *api.Plan) { p.Weights = []int{5, 6, 4} }, api.ErrConfig},
		"a fall at the start": {func(p *api.Plan) { p.Weights = []int{7, 5, 6, 8} }, api.ErrConfig},
		"again later":         {func(p *api.Plan) { p.Weights = []int{5, 7, 5} }, api.ErrConfig},
		"both ends of int":    {func(p *api.Plan) { p.Weights = []int{math.MinInt, math.MaxInt} }, api.ErrConfig},
		"Errors above all":    {func(p *api.Plan) { p.Num, p.Den = 1000000, 1 }, api.OK},
		"no errors at all":    {func(p *api.Plan) { p.Num, p.Den = 0, 1000000 }, api.OK},
		"all at the least":    {func(p *api.Plan) { *p = planOf([]int{1}, 1, 0, 1, 1, 1) }, api.OK},
		"all at the greatest": {func(p *api.Plan) { *p = planOf([]int{10000}, 1000000, 1000000, 1000000, 100, 1000000) }, api.OK},
		"all bad":             {func(p *api.Plan) { *p = planOf([]int{0}, 0, -1, 0, 0, 0) }, api.ErrConfig},
	} {
		p := example()
		x.change(&p)
		if got := plan.Validate(p); got != x.want {
			t.Errorf("%s: Validate = %d, want %d", name, got, x.want)
		}
		check(t, p)
	}
}

// Each number alone is out of its limits, on both sides, and at them.
func TestNumbersAtTheirLimits(t *testing.T) {
	for _, x := range numbersOfPlan() {
		for n, want := range map[int]api.Errno{
			x.least - 1: api.ErrConfig, x.least: api.OK, x.least + 1: api.OK, (x.least + x.most) / 2: api.OK,
			x.most - 1: api.OK, x.most: api.OK, x.most + 1: api.ErrConfig, -x.most: api.ErrConfig,
			math.MinInt: api.ErrConfig, math.MaxInt: api.ErrConfig, 1 << 32: api.ErrConfig, 1<<32 + 1: api.ErrConfig,
		} {
			p := example()
			x.set(&p, n)
			if got := plan.Validate(p); got != want {
				t.Errorf("%s %d: Validate = %d, want %d", x.name, n, got, want)
			}
		}
		for _, n := range numbers() {
			p := example()
			x.set(&p, n)
			check(t, p)
		}
	}
}

// The numbers at, or just beside, their limits in all combinations, with good weights and with bad ones.
func TestNumbersTogether(t *testing.T) {
	lists := [][]int{nil, {0}, {1}, {100, 1000}, {1000, 100}, {10000}, {10001}}
	parts := numbersOfPlan()
	for choice := range 4 * 4 * 4 * 4 * 4 {
		var p api.Plan
		for _, x := range parts {
			x.set(&p, []int{x.least - 1, x.least, x.most, x.most + 1}[choice%4])
			choice /= 4
		}
		for _, l := range lists {
			p.Weights = l
			check(t, p)
		}
	}
}

// All lists of up to four of the weights that matter.
func TestShortLists(t *testing.T) {
	matter := []int{math.MinInt, -1, 0, 1, 2, 5000, 9999, 10000, 10001, math.MaxInt}
	lists := [][]int{nil}
	for range 4 {
		var longer [][]int
		for _, l := range lists {
			for _, weight := range matter {
				p := example()
				p.Weights = append(slices.Clone(l), weight)
				check(t, p)
				longer = append(longer, p.Weights)
			}
		}
		lists = longer
	}
}

// Lists of every length that ascend, and the same with another number at one place.
func TestListsWithOneChange(t *testing.T) {
	r := rand.New(rand.NewSource(2))
	for n := range 20 {
		for range 5 {
			p := example()
			p.Weights = ascending(r, n)
			if got := plan.Validate(p) == api.OK; got != (n >= 1 && n <= 8) {
				t.Fatalf("%d weights: %v", n, got)
			}
			check(t, p)
			for i := range p.Weights {
				changed := p
				for _, weight := range append(numbers(), p.Weights...) {
					changed.Weights = slices.Clone(p.Weights)
					changed.Weights[i] = weight
					checkValidate(t, changed)
				}
			}
		}
	}
}

// Every weight is valid alone, and in between those beside it; none is beside itself.
func TestEveryWeight(t *testing.T) {
	for weight := -3; weight <= api.Buckets+3; weight++ {
		for _, l := range [][]int{{weight}, {weight - 1, weight, weight + 1}, {1, weight}, {weight, api.Buckets}, {weight, weight}} {
			p := example()
			p.Weights = l
			checkValidate(t, p)
		}
	}
}

func TestLongLists(t *testing.T) {
	for _, n := range []int{9, 16, 100, 256, 257, 264, 10000, 10001, 65536 + 8, 1000000} {
		p := example()
		for i := range n {
			p.Weights = append(p.Weights[:i], i+1)
		}
		if got := plan.Validate(p); got != api.ErrConfig {
			t.Errorf("%d weights: %d", n, got)
		}
		check(t, p)
	}
}

func TestArbitraryPlans(t *testing.T) {
	r := rand.New(rand.NewSource(3))
	for range 20000 {
		p := arbitrary(r)
		if got := plan.Validate(p); got != api.OK {
			t.Fatalf("Validate(%+v) = %d", p, got)
		}
		check(t, p)
		x := numbersOfPlan()[r.Intn(5)]
		x.set(&p, int(r.Uint64()>>r.Intn(64)))
		check(t, p)
		r.Shuffle(len(p.Weights), func(i, j int) { p.Weights[i], p.Weights[j] = p.Weights[j], p.Weights[i] })
		check(t, p)
		check(t, planOf(wild(r), int(r.Uint64()), int(r.Uint64()), int(r.Uint64()), int(r.Uint64()), int(r.Uint64())))
		p = arbitrary(r)
		p.Weights = wild(r)
		check(t, p)
	}
}

// wild returns an arbitrary list of numbers, in and outside the limits.
func wild(r *rand.Rand) []int {
	l := make([]int, r.Intn(12))
	for i := range l {
		l[i] = int(int32(r.Uint32())) >> r.Intn(32)
	}
	return l
}

// Weights that are a part of a longer list are changed by nothing, nor is what follows
// them; and what follows them does not matter.
func TestListsInsideOfOthers(t *testing.T) {
	whole := []int{1, 2, 3, 4, 5, 6, 7, 8, 9, 10}
	for from := range whole {
		for to := from; to <= len(whole); to++ {
			for room := to; room <= len(whole); room++ {
				memory := slices.Clone(whole)
				p := example()
				p.Weights = memory[from:to:room]
				valid := to-from >= 1 && to-from <= 8
				if got := plan.Validate(p) == api.OK; got != valid {
					t.Fatalf("weights %d to %d: %v", from, to, got)
				}
				if got := plan.Weight(p, 0) != 0; got != valid {
					t.Fatalf("weights %d to %d: %v", from, to, got)
				}
				if got := plan.Weight(p, to-from); got != 0 {
					t.Fatalf("weights %d to %d: the weight behind them is %d", from, to, got)
				}
				plan.Verdict(p, api.Window{Total: 100})
				if !slices.Equal(memory, whole) {
					t.Fatalf("weights %d to %d of %d have been changed: %d", from, to, room, memory)
				}
			}
		}
	}
}

// P16.2

func TestWeight(t *testing.T) {
	for stage, want := range map[int]int{
		math.MinInt: 0, -4: 0, -3: 0, -1: 0, 0: 100, 1: 1000, 2: 10000, 3: 0, 4: 0, 8: 0,
		1 << 32: 0, 1<<32 + 1: 0, math.MaxInt: 0,
	} {
		if got := plan.Weight(example(), stage); got != want {
			t.Errorf("Weight of the stage %d = %d, want %d", stage, got, want)
		}
	}
	p := example()
	for n := range 8 {
		p.Weights = []int{1, 20, 300, 4000, 5000, 6000, 7000, 8000}[:n+1]
		for _, stage := range numbers() {
			checkWeight(t, p, stage)
		}
		if got := plan.Weight(p, n); got != p.Weights[n] {
			t.Errorf("Weight of the last of %d stages = %d", n+1, got)
		}
	}
}

// A plan that is not valid has no stages, though the list may have weights.
func TestWeightWithoutValidPlan(t *testing.T) {
	for _, x := range numbersOfPlan() {
		for _, n := range []int{x.least - 1, x.most + 1} {
			p := example()
			x.set(&p, n)
			for stage := range p.Weights {
				if got := plan.Weight(p, stage); got != 0 {
					t.Errorf("%s %d: Weight of the stage %d = %d", x.name, n, stage, got)
				}
			}
		}
	}
	for _, l := range [][]int{nil, {5, 5}, {5, 6, 4}, {5, 10001}, {0, 5}, {1, 2, 3, 4, 5, 6, 7, 8, 9}} {
		p := example()
		p.Weights = l
		for stage := -1; stage <= len(l); stage++ {
			if got := plan.Weight(p, stage); got != 0 {
				t.Errorf("%d: Weight of the stage %d = %d", l, stage, got)
			}
		}
	}
}

// P16.3

func TestVerdict(t *testing.T) {
	const top = api.MaxCount
	for _, x := range []struct {
		p                   api.Plan
		total, errors, want int
	}{
		// The example: 1 / 100 of 100 samples is 1.
		{share(10, 1, 100), 100, 0, api.Healthy},
		{share(10, 1, 100), 100, 1, api.Healthy},
		{share(10, 1, 100), 100, 2, api.Failing},
		{share(10, 1, 100), 100, 100, api.Failing},
		{share(10, 1, 100), 99, 0, api.Healthy},
		{share(10, 1, 100), 99, 1, api.Failing},
		{share(10, 1, 100), 199, 1, api.Healthy},
		{share(10, 1, 100), 199, 2, api.Failing},
		{share(10, 1, 100), 200, 2, api.Healthy},
		// Too few samples, whatever the errors are.
		{share(10, 1, 100), 9, 0, api.Thin},
		{share(10, 1, 100), 9, 9, api.Thin},
		{share(10, 1, 100), 9, top, api.Thin},
		{share(10, 1, 100), 0, 0, api.Thin},
		{share(10, 1, 100), 10, 0, api.Healthy},
		{share(10, 1, 100), 10, 1, api.Failing},
		{share(1, 1, 1), 0, 0, api.Thin},
		{share(1, 1, 1), 1, 0, api.Healthy},
		{share(1000000, 0, 1), 999999, 1, api.Thin},
		{share(1000000, 0, 1), 1000000, 1, api.Failing},
		// No errors are allowed.
		{share(1, 0, 1), 1, 0, api.Healthy},
		{share(1, 0, 1), top, 0, api.Healthy},
		{share(1, 0, 1), top, 1, api.Failing},
		{share(1, 0, 1000000), 1, 1, api.Failing},
		// All may be errors.
		{share(1, 1, 1), 5, 5, api.Healthy},
		{share(1, 7, 7), top, top, api.Healthy},
		{share(1, 1000000, 1000000), top, top, api.Healthy},
		{share(1, 999999, 1000000), top, top, api.Failing},
		{share(1, 999999, 1000000), 1000000, 999999, api.Healthy},
		{share(1, 999999, 1000000), 1000000, 1000000, api.Failing},
		// More errors than samples are counted as they are.
		{share(1, 1, 1), 5, 6, api.Failing},
		{share(1, 2, 1), 5, 10, api.Healthy},
		{share(1, 2, 1), 5, 11, api.Failing},
		{share(1, 1000000, 1), 1, 1000000, api.Healthy},
		{share(1, 1000000, 1), 1, 1000001, api.Failing},
		{share(1, 1000000, 1), 1000, top, api.Healthy},
		{share(1, 1000000, 1), 999, top, api.Failing},
		{share(1, 1000000, 1), top, top, api.Healthy},
		// The greatest products.
		{share(1, 1, 1000000), top, 1000, api.Healthy},
		{share(1, 1, 1000000), top, 1001, api.Failing},
		{share(10, 1, 100), top, 10000000, api.Healthy},
		{share(10, 1, 100), top, 10000001, api.Failing},
		{share(10, 1, 100), top, top, api.Failing},
		{share(1000000, 1000000, 1000000), top, top - 1, api.Healthy},
		// Products that differ from each other above 2^32 only.
		{share(1, 0, 1), 1 << 16, 1 << 16, api.Failing},
		{share(1, 1, 1<<16), 1, 1 << 16, api.Failing},
		{share(1, 1<<16, 1), 1 << 16, 1, api.Healthy},
		// Counters that are none.
		{share(10, 1, 100), -1, 0, 0},
		{share(10, 1, 100), 100, -1, 0},
		{share(10, 1, 100), 0, -1, 0},
		{share(10, 1, 100), -1, -1, 0},
		{share(10, 1, 100), top + 1, 0, 0},
		{share(10, 1, 100), 100, top + 1, 0},
		{share(10, 1, 100), 0, top + 1, 0},
		{share(10, 1, 100), math.MinInt, 0, 0},
		{share(10, 1, 100), math.MaxInt, 0, 0},
		{share(10, 1, 100), 100, math.MinInt, 0},
		{share(10, 1, 100), 100, math.MaxInt, 0},
		{share(10, 1, 100), math.MaxInt, math.MaxInt, 0},
		// Plans that are none.
		{api.Plan{}, 100, 0, 0},
		{share(0, 1, 100), 100, 0, 0},
		{share(1000001, 1, 100), 100, 0, 0},
		{share(10, -1, 100), 100, 0, 0},
		{share(10, 1000001, 100), 100, 0, 0},
		{share(10, 1, 0), 100, 0, 0},
		{share(10, 1, -100), 100, 0, 0},
		{share(10, 1, 1000001), 100, 0, 0},
		{share(math.MaxInt, math.MaxInt, math.MaxInt), top, top, 0},
	} {
		w := api.Window{Total: x.total, Errors: x.errors}
		if got := plan.Verdict(x.p, w); got != x.want {
			t.Errorf("Verdict(%+v, %+v) = %d, want %d", x.p, w, got, x.want)
		}
		checkVerdict(t, x.p, w)
	}
}

// Every part of a plan counts for the verdict: the list and the numbers that it does not
// compare with anything, too.
func TestVerdictWithoutValidPlan(t *testing.T) {
	w := api.Window{Total: 1000000, Errors: 1}
	for _, x := range numbersOfPlan() {
		for _, n := range []int{x.least - 1, x.most + 1} {
			p := example()
			x.set(&p, n)
			if got := plan.Verdict(p, w); got != 0 {
				t.Errorf("%s %d: Verdict = %d", x.name, n, got)
			}
		}
	}
	for _, l := range [][]int{nil, {0}, {10001}, {5, 5}, {6, 5}, {1, 2, 3, 4, 5, 6, 7, 8, 9}} {
		p := example()
		p.Weights = l
		if got := plan.Verdict(p, w); got != 0 {
			t.Errorf("%d: Verdict = %d", l, got)
		}
	}
}

// The age of a window and what else a plan holds do not matter.
func TestVerdictDependsOnCountersOnly(t *testing.T) {
	for _, x := range []struct{ total, errors, want int }{
		{9, 9, api.Thin}, {100, 1, api.Healthy}, {100, 2, api.Failing}, {-1, 0, 0},
	} {
		for _, age := range numbers() {
			w := api.Window{Total: x.total, Errors: x.errors, Age: age}
			if got := plan.Verdict(example(), w); got != x.want {
				t.Fatalf("Verdict of %+v = %d, want %d", w, got, x.want)
			}
		}
		r := rand.New(rand.NewSource(4))
		for range 1000 {
			p := arbitrary(r)
			p.MinSamples, p.Num, p.Den = 10, 1, 100
			if got := plan.Verdict(p, api.Window{Total: x.total, Errors: x.errors}); got != x.want {
				t.Fatalf("Verdict of %+v = %d, want %d", p, got, x.want)
			}
		}
	}
}

// All plans and windows of small numbers.
func TestSmallVerdicts(t *testing.T) {
	for minSamples := range 5 {
		for num := -1; num < 5; num++ {
			for den := range 5 {
				for total := -1; total < 9; total++ {
					for errors := -1; errors < 9; errors++ {
						checkVerdict(t, share(minSamples, num, den), api.Window{Total: total, Errors: errors})
					}
				}
			}
		}
	}
}

func TestVerdictsOfNumbers(t *testing.T) {
	all := numbers()
	for _, total := range all {
		for _, errors := range all {
			checkVerdict(t, example(), api.Window{Total: total, Errors: errors})
		}
	}
}

// most returns the greatest number of errors with which total samples may be healthy.
func most(p api.Plan, total int) int {
	return p.Num * total / p.Den
}

// Arbitrary plans, with samples around the least number and errors around the share.
func TestVerdictsAroundTheShare(t *testing.T) {
	r := rand.New(rand.NewSource(5))
	for range 50000 {
		p := arbitrary(r)
		total := r.Intn(api.MaxCount+1) >> r.Intn(30)
		if r.Intn(3) == 0 {
			total = p.MinSamples + r.Intn(5) - 2
		}
		limit := most(p, total)
		for errors := limit - 2; errors <= limit+2; errors++ {
			checkVerdict(t, p, api.Window{Total: total, Errors: errors, Age: r.Intn(10)})
		}
		if total < p.MinSamples || limit >= api.MaxCount {
			continue
		}
		if got := plan.Verdict(p, api.Window{Total: total, Errors: limit}); got != api.Healthy {
			t.Fatalf("%d errors of %d with %+v: %d", limit, total, p, got)
		}
		if got := plan.Verdict(p, api.Window{Total: total, Errors: limit + 1}); got != api.Failing {
			t.Fatalf("%d errors of %d with %+v: %d", limit+1, total, p, got)
		}
	}
}

func TestVerdictsOfArbitraryWindows(t *testing.T) {
	r := rand.New(rand.NewSource(6))
	for range 100000 {
		p := arbitrary(r)
		w := api.Window{Total: int(r.Uint64() >> r.Intn(64)), Errors: int(r.Uint64() >> r.Intn(64)), Age: int(r.Uint64())}
		checkVerdict(t, p, w)
		checkVerdict(t, p, api.Window{Total: r.Intn(api.MaxCount + 2), Errors: r.Intn(api.MaxCount + 2)})
	}
}

// P16.4

// checkNotBetter reports a window that more errors make better: what is thin stays so,
// and what is failing does, too.
func checkNotBetter(t *testing.T, p api.Plan, total int, errors []int) {
	t.Helper()
	errors = slices.DeleteFunc(slices.Clone(errors), func(n int) bool { return n < 0 || n > api.MaxCount })
	slices.Sort(errors)
	before := 0
	for _, n := range errors {
		after := plan.Verdict(p, api.Window{Total: total, Errors: n})
		if after < api.Thin || after > api.Failing {
			t.Fatalf("%d errors of %d with %+v: %d", n, total, p, after)
		}
		thin := total < p.MinSamples
		if (after == api.Thin) != thin || before == api.Failing && after != api.Failing {
			t.Fatalf("%d errors of %d with %+v: %d behind %d", n, total, p, after, before)
		}
		before = after
	}
}

func TestMoreErrorsAreNotBetter(t *testing.T) {
	errors := numbers()
	for n := range 250 {
		errors = append(errors, n)
	}
	for _, p := range []api.Plan{example(), share(1, 0, 1), share(1, 1, 1), share(1, 1000000, 1), share(1000000, 1, 1000000), share(1, 1000000, 1000000)} {
		for total := range 250 {
			checkNotBetter(t, p, total, errors)
		}
		for _, total := range []int{999999, 1000000, 1000001, api.MaxCount - 1, api.MaxCount} {
			checkNotBetter(t, p, total, errors)
		}
	}
}

func TestMoreErrorsAreNotBetterWithArbitraryPlans(t *testing.T) {
	r := rand.New(rand.NewSource(7))
	all := numbers()
	for range 2000 {
		p := arbitrary(r)
		for _, total := range []int{p.MinSamples - 1, p.MinSamples, r.Intn(api.MaxCount + 1), r.Intn(api.MaxCount+1) >> r.Intn(30)} {
			limit := most(p, total)
			checkNotBetter(t, p, total, append(slices.Clone(all), limit-1, limit, limit+1, r.Intn(api.MaxCount+1)))
		}
	}
}
