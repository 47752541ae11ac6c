package window_test

import (
	"math"
	"math/rand"
	"slices"
	"testing"

	"canary/api"
	"canary/window"
)

// Each promise is checked on named cases, on numbers around the greatest count, around
// the powers of 2 and 10 and at both ends of int, on all lists of up to three windows of
// the numbers that matter, on windows that are used for many samples and ticks, and on
// arbitrary numbers and lists, also outside the limits, against an oracle that calls no
// other layer.

const most = 1000000000

// of returns a window with these numbers.
func of(total, errors, age int) api.Window {
	return api.Window{Total: total, Errors: errors, Age: age}
}

// numbers returns the same numbers in every run: small ones, those around the greatest
// count and around the powers of 2 and 10, the extremes, and arbitrary ones.
func numbers() []int {
	l := []int{math.MinInt, math.MinInt + 1, math.MaxInt - 1, math.MaxInt}
	for n := -20; n <= 20; n++ {
		l = append(l, n, most+n, most/2+n, -most+n, 2*most+n)
	}
	for _, base := range []int{2, 10} {
		for p := 1; ; p *= base {
			l = append(l, p-1, p, p+1, -p-1, -p, -p+1)
			if p > math.MaxInt/base {
				break
			}
		}
	}
	r := rand.New(rand.NewSource(1))
	for range 100 {
		l = append(l, int(r.Uint64()), int(r.Uint64()>>r.Intn(64)))
	}
	return l
}

// few returns the numbers that matter most: the limits, those beside them, and the extremes.
func few() []int {
	return []int{math.MinInt, -most, -1, 0, 1, 2, most / 2, most/2 + 1, most - 1, most, most + 1, math.MaxInt - 1, math.MaxInt}
}

// arbitrary returns a window of any numbers.
func arbitrary(r *rand.Rand) api.Window {
	n := func() int {
		if r.Intn(4) == 0 {
			return few()[r.Intn(len(few()))]
		}
		return int(r.Uint64()) >> r.Intn(64)
	}
	return of(n(), n(), n())
}

// sound returns a window within the limits, with no more errors than samples.
func sound(r *rand.Rand) api.Window {
	total := r.Intn(most+1) >> r.Intn(30)
	if r.Intn(3) == 0 {
		total = most - r.Intn(3)
	}
	errors := r.Intn(total + 1)
	if r.Intn(3) == 0 {
		errors = total - r.Intn(min(total, 2)+1)
	}
	return of(total, errors, r.Intn(100))
}

// P17.1

func TestCount(t *testing.T) {
	for _, x := range []struct {
		w      api.Window
		failed bool
		want   api.Window
	}{
		{of(0, 0, 0), false, of(1, 0, 0)},
		{of(0, 0, 0), true, of(1, 1, 0)},
		{of(5, 2, 3), false, of(6, 2, 3)},
		{of(5, 2, 3), true, of(6, 3, 3)},
		{of(5, 5, 0), true, of(6, 6, 0)},
		// The counters stay at the greatest count, each for itself.
		{of(most-2, most-2, 0), true, of(most-1, most-1, 0)},
		{of(most-1, most-1, 0), false, of(most, most-1, 0)},
		{of(most-1, most-1, 0), true, of(most, most, 0)},
		{of(most, most, 0), false, of(most, most, 0)},
		{of(most, most, 0), true, of(most, most, 0)},
		{of(most, 3, 0), false, of(most, 3, 0)},
		{of(most, 3, 0), true, of(most, 4, 0)},
		{of(most, most-1, 0), true, of(most, most, 0)},
		{of(3, most, 0), true, of(4, most, 0)},
		{of(3, most, 0), false, of(4, most, 0)},
		// More errors than samples are counted as they are.
		{of(2, 5, 0), false, of(3, 5, 0)},
		{of(2, 5, 0), true, of(3, 6, 0)},
		// A negative counter counts as 0, also the one that does not grow.
		{of(-1, 0, 0), false, of(1, 0, 0)},
		{of(-5, -7, 0), true, of(1, 1, 0)},
		{of(-5, -7, 0), false, of(1, 0, 0)},
		{of(5, -1, 0), false, of(6, 0, 0)},
		{of(5, -1, 0), true, of(6, 1, 0)},
		{of(-1, 5, 0), false, of(1, 5, 0)},
		{of(-1, 5, 0), true, of(1, 6, 0)},
		{of(math.MinInt, math.MinInt, 0), false, of(1, 0, 0)},
		{of(math.MinInt, math.MinInt, 0), true, of(1, 1, 0)},
		// A greater one counts as the greatest.
		{of(most+1, 0, 0), false, of(most, 0, 0)},
		{of(1<<31-1, 0, 0), true, of(most, 1, 0)},
		{of(5, most+1, 0), false, of(6, most, 0)},
		{of(5, most+1, 0), true, of(6, most, 0)},
		{of(most+1, most+1, 0), true, of(most, most, 0)},
		{of(math.MaxInt, math.MaxInt, 0), false, of(most, most, 0)},
		{of(math.MaxInt, math.MaxInt, 0), true, of(most, most, 0)},
		{of(math.MaxInt, math.MinInt, 0), true, of(most, 1, 0)},
		{of(math.MinInt, math.MaxInt, 0), true, of(1, most, 0)},
		// Counting does not let a window grow older, whatever its age is.
		{of(1, 0, 9), false, of(2, 0, 9)},
		{of(1, 0, 9), true, of(2, 1, 9)},
		{of(1, 0, -3), true, of(2, 1, -3)},
		{of(1, 0, most+1), false, of(2, 0, most+1)},
		{of(1, 0, math.MaxInt), true, of(2, 1, math.MaxInt)},
		{of(1, 0, math.MinInt), true, of(2, 1, math.MinInt)},
		{of(most, most, 7), true, of(most, most, 7)},
	} {
		if got := window.Count(x.w, x.failed); got != x.want {
			t.Errorf("Count(%+v, %v) = %+v, want %+v", x.w, x.failed, got, x.want)
		}
		checkCount(t, x.w, x.failed)
	}
}

func TestCountOfNumbers(t *testing.T) {
	all := numbers()
	for _, total := range all {
		for _, errors := range all {
			checkCount(t, of(total, errors, 4), true)
			checkCount(t, of(total, errors, 4), false)
		}
	}
	for _, age := range all {
		checkCount(t, of(5, 2, age), true)
		checkCount(t, of(5, 2, age), false)
	}
}

func TestCountOfArbitraryWindows(t *testing.T) {
	r := rand.New(rand.NewSource(2))
	for range 100000 {
		checkCount(t, arbitrary(r), r.Intn(2) == 0)
		checkCount(t, sound(r), r.Intn(2) == 0)
	}
}

// So many samples as are counted are there, and as many errors as have failed; at the
// greatest count there are no more.
func TestCountOfManySamples(t *testing.T) {
	r := rand.New(rand.NewSource(3))
	for _, from := range []api.Window{{}, of(5, 2, 3), of(most-500, 0, 1), of(most-10, most-700, 1), of(most, most-100, 1)} {
		w := from
		samples, failures := 0, 0
		for range 1000 {
			failed := r.Intn(3) == 0
			w = window.Count(w, failed)
			if samples++; failed {
				failures++
			}
			want := of(min(from.Total+samples, most), min(from.Errors+failures, most), from.Age)
			if w != want {
				t.Fatalf("%d samples, %d failed, counted in %+v: %+v, want %+v", samples, failures, from, w, want)
			}
		}
	}
}

// P17.2

func TestTick(t *testing.T) {
	for _, x := range []struct {
		age, length, later int
		closed             bool
	}{
		// The example.
		{9, 10, 0, true},
		{0, 10, 1, false},
		{1, 10, 2, false},
		{7, 10, 8, false},
		{8, 10, 9, false},
		{10, 10, 0, true},
		{11, 10, 0, true},
		{20, 10, 0, true},
		{0, 1, 0, true},
		{0, 2, 1, false},
		{1, 2, 0, true},
		{999998, 1000000, 999999, false},
		{999999, 1000000, 0, true},
		// A negative age counts as 0.
		{-1, 1, 0, true},
		{-1, 2, 1, false},
		{-3, 1, 0, true},
		{-3, 2, 1, false},
		{-3, -2, 0, true},
		{math.MinInt, 1, 0, true},
		{math.MinInt, 2, 1, false},
		{math.MinInt, math.MaxInt, 1, false},
		{math.MinInt, math.MinInt, 0, true},
		// Every window is at least as old as a length that is not above 0.
		{0, 0, 0, true},
		{0, -1, 0, true},
		{5, -6, 0, true},
		{-1, 0, 0, true},
		{-1, -1, 0, true},
		{0, math.MinInt, 0, true},
		{math.MaxInt, math.MinInt, 0, true},
		// The age has no greatest count.
		{most - 1, most + 1, most, false},
		{most, most + 1, 0, true},
		{most, most + 2, most + 1, false},
		{most + 1, most + 2, 0, true},
		{most, math.MaxInt, most + 1, false},
		{1<<31 - 1, 1<<31 + 1, 1 << 31, false},
		{1<<32 - 1, 1<<32 + 1, 1 << 32, false},
		{1 << 32, 1, 0, true},
		{0, 1 << 32, 1, false},
		{0, 1<<32 + 1, 1, false},
		// The greatest ages: one more than the greatest int is above every length.
		{0, math.MaxInt, 1, false},
		{math.MaxInt - 3, math.MaxInt, math.MaxInt - 2, false},
		{math.MaxInt - 2, math.MaxInt, math.MaxInt - 1, false},
		{math.MaxInt - 1, math.MaxInt, 0, true},
		{math.MaxInt, math.MaxInt, 0, true},
		{math.MaxInt, math.MaxInt - 1, 0, true},
		{math.MaxInt, 1, 0, true},
	} {
		// The counters play no part, and an open window keeps them as they are.
		for _, w := range []api.Window{{}, of(5, 2, 0), of(2, 5, 0), of(most, most, 0), of(-5, -2, 0), of(math.MaxInt, math.MinInt, 0), of(most+1, most+1, 0)} {
			w.Age = x.age
			want := of(w.Total, w.Errors, x.later)
			if x.closed {
				want = api.Window{}
			}
			if got, closed := window.Tick(w, x.length); got != want || closed != x.closed {
				t.Errorf("Tick(%+v, %d) = %+v and %v", w, x.length, got, closed)
			}
			checkTick(t, w, x.length)
		}
	}
}

func TestTickOfNumbers(t *testing.T) {
	all := numbers()
	for _, age := range all {
		for _, length := range all {
			checkTick(t, of(5, 2, age), length)
		}
	}
	for _, total := range all {
		for _, errors := range all {
			checkTick(t, of(total, errors, 3), 4)
			checkTick(t, of(total, errors, 3), 5)
		}
	}
}

func TestTickOfArbitraryWindows(t *testing.T) {
	r := rand.New(rand.NewSource(4))
	for range 100000 {
		w := arbitrary(r)
		checkTick(t, w, int(r.Uint64())>>r.Intn(64))
		for n := range 4 {
			if w.Age < math.MaxInt-2 {
				checkTick(t, w, w.Age+n)
			}
		}
		w = sound(r)
		checkTick(t, w, 1+r.Intn(100))
	}
}

// A new window is closed by as many ticks as its length, and the next one, too.
func TestTicksOfAWindow(t *testing.T) {
	for length := 1; length <= 100; length++ {
		var w api.Window
		for tick := 1; tick <= 3*length; tick++ {
			w = window.Count(w, tick%2 == 0)
			next, closed := window.Tick(w, length)
			if want := tick%length == 0; closed != want {
				t.Fatalf("tick %d of the length %d: %v", tick, length, closed)
			}
			if w = next; closed && w != (api.Window{}) {
				t.Fatalf("tick %d of the length %d: %+v", tick, length, w)
			}
			if age := tick % length; w.Age != age || w.Total != age {
				t.Fatalf("tick %d of the length %d: %+v", tick, length, w)
			}
		}
	}
}

// P17.3

func TestMerge(t *testing.T) {
	for _, x := range []struct {
		l    []api.Window
		want api.Window
	}{
		{nil, of(0, 0, 0)},
		{[]api.Window{}, of(0, 0, 0)},
		{[]api.Window{{}}, of(0, 0, 0)},
		{[]api.Window{{}, {}, {}}, of(0, 0, 0)},
		// The age is 0, also of a single window.
		{[]api.Window{of(5, 2, 0)}, of(5, 2, 0)},
		{[]api.Window{of(5, 2, 7)}, of(5, 2, 0)},
		{[]api.Window{of(0, 0, 7)}, of(0, 0, 0)},
		{[]api.Window{of(0, 0, -7), of(0, 0, math.MinInt)}, of(0, 0, 0)},
		{[]api.Window{of(1, 1, math.MaxInt), of(1, 0, math.MaxInt)}, of(2, 1, 0)},
		{[]api.Window{of(3, 1, 9), {}, of(4, -2, 0)}, of(7, 1, 0)},
		{[]api.Window{of(1, 2, 3), of(10, 20, 30), of(100, 200, 300)}, of(111, 222, 0)},
		{[]api.Window{of(1, 0, 0), of(1, 0, 0), of(1, 1, 0), of(1, 0, 0)}, of(4, 1, 0)},
		// Neither sum is above the greatest count, each for itself.
		{[]api.Window{of(most, most, 0)}, of(most, most, 0)},
		{[]api.Window{of(most-1, most-2, 0), of(1, 1, 0)}, of(most, most-1, 0)},
		{[]api.Window{of(most-1, 0, 0), of(2, 1, 0)}, of(most, 1, 0)},
		{[]api.Window{of(most, 5, 0), of(most, most, 0)}, of(most, most, 0)},
		{[]api.Window{of(most, 5, 0), of(most, 6, 0)}, of(most, 11, 0)},
		{[]api.Window{of(3, most, 0), of(4, most, 0)}, of(7, most, 0)},
		{[]api.Window{of(most, most, 0), of(-1, -1, 0)}, of(most, most, 0)},
		{[]api.Window{of(most+1, most+1, 0)}, of(most, most, 0)},
		{[]api.Window{of(most+5, most+5, 0), of(-5, -5, 0)}, of(most, most, 0)},
		{[]api.Window{of(math.MaxInt, math.MaxInt, 0)}, of(most, most, 0)},
		// The sums are meant exactly: they would not fit into an int.
		{[]api.Window{of(math.MaxInt, 1, 0), of(1, math.MaxInt, 0)}, of(most, most, 0)},
		{[]api.Window{of(math.MaxInt, math.MaxInt, 0), of(math.MaxInt, math.MaxInt, 0)}, of(most, most, 0)},
		{[]api.Window{of(math.MaxInt, math.MaxInt, 0), of(math.MaxInt, math.MaxInt, 0), of(2, 2, 0)}, of(most, most, 0)},
		// A negative counter counts as 0, each for itself, and takes nothing from the others.
		{[]api.Window{of(-1, -1, 0)}, of(0, 0, 0)},
		{[]api.Window{of(-1, 5, 0)}, of(0, 5, 0)},
		{[]api.Window{of(5, -1, 0)}, of(5, 0, 0)},
		{[]api.Window{of(-3, 2, 0), of(5, 1, 0)}, of(5, 3, 0)},
		{[]api.Window{of(5, 1, 0), of(-3, -3, 0)}, of(5, 1, 0)},
		{[]api.Window{of(math.MinInt, math.MinInt, 0)}, of(0, 0, 0)},
		{[]api.Window{of(math.MinInt, math.MinInt, 0), of(math.MinInt, math.MinInt, 0)}, of(0, 0, 0)},
		{[]api.Window{of(math.MinInt, math.MaxInt, 0), of(math.MaxInt, math.MinInt, 0)}, of(most, most, 0)},
		{[]api.Window{of(math.MinInt, 1, 0), of(1, math.MinInt, 0)}, of(1, 1, 0)},
	} {
		if got := window.Merge(x.l...); got != x.want {
			t.Errorf("Merge(%+v) = %+v, want %+v", x.l, got, x.want)
		}
		checkMerge(t, x.l...)
	}
}

func TestMergeOfNumbers(t *testing.T) {
	all := numbers()
	for _, a := range all {
		for _, b := range all {
			checkMerge(t, of(a, b, b))
			checkMerge(t, of(a, b, a), of(b, a, b))
		}
	}
}

// All lists of up to three windows of the numbers that matter.
func TestMergeOfShortLists(t *testing.T) {
	var windows []api.Window
	for i, total := range few() {
		for _, errors := range []int{few()[(i+5)%len(few())], -1, 0, 1, most} {
			windows = append(windows, of(total, errors, i))
		}
	}
	for _, a := range windows {
		checkMerge(t, a)
		for _, b := range windows {
			checkMerge(t, a, b)
			for _, c := range windows {
				if got, want := window.Merge(a, b, c), wantMerge(a, b, c); got != want {
					t.Fatalf("Merge(%+v, %+v, %+v) = %+v, want %+v", a, b, c, got, want)
				}
			}
		}
	}
}

func TestMergeOfLongLists(t *testing.T) {
	for _, n := range []int{10, 100, 255, 256, 257, 65537, 1000000} {
		for _, w := range []api.Window{{}, of(1, 0, 1), of(2, 1, 3), of(1000, 999, 0), of(1001, 1, -1), of(-1, -1, 0), of(math.MaxInt, math.MinInt, 5)} {
			l := slices.Repeat([]api.Window{w}, n)
			want := of(min(max(min(w.Total, most), 0)*n, most), min(max(min(w.Errors, most), 0)*n, most), 0)
			if got := window.Merge(l...); got != want {
				t.Fatalf("Merge of %d times %+v = %+v, want %+v", n, w, got, want)
			}
			checkMerge(t, l...)
		}
	}
}

// Neither the order of windows nor the way they are grouped matters.
func TestMergeOfArbitraryLists(t *testing.T) {
	r := rand.New(rand.NewSource(5))
	for range 20000 {
		l := make([]api.Window, r.Intn(12))
		for i := range l {
			if l[i] = sound(r); r.Intn(3) == 0 {
				l[i] = arbitrary(r)
			}
		}
		checkMerge(t, l...)
		whole := window.Merge(l...)
		at := r.Intn(len(l) + 1)
		if got := window.Merge(window.Merge(l[:at]...), window.Merge(l[at:]...)); got != whole {
			t.Fatalf("Merge(%+v) in two groups = %+v, want %+v", l, got, whole)
		}
		r.Shuffle(len(l), func(i, j int) { l[i], l[j] = l[j], l[i] })
		if got := window.Merge(l...); got != whole {
			t.Fatalf("Merge(%+v) in another order = %+v, want %+v", l, got, whole)
		}
	}
}

// Samples that are counted in several windows are the same when those are merged as
// samples that are counted in one.
func TestMergeOfCounts(t *testing.T) {
	r := rand.New(rand.NewSource(6))
	for range 1000 {
		var one api.Window
		several := make([]api.Window, 1+r.Intn(5))
		for range r.Intn(100) {
			failed := r.Intn(2) == 0
			one = window.Count(one, failed)
			w := &several[r.Intn(len(several))]
			*w = window.Count(*w, failed)
		}
		if got := window.Merge(several...); got != one {
			t.Fatalf("Merge(%+v) = %+v, want %+v", several, got, one)
		}
	}
}

// P17.4

// checkCounters reports a counter that is none, one that has become less than before,
// and more errors than samples where there were not before.
func checkCounters(t *testing.T, what string, after api.Window, before ...api.Window) {
	t.Helper()
	within := func(n int) bool { return n >= 0 && n <= most }
	if !within(after.Total) || !within(after.Errors) {
		t.Fatalf("%s of %+v: %+v", what, before, after)
	}
	were := true
	for _, w := range before {
		if after.Total < min(w.Total, most) || after.Errors < min(w.Errors, most) {
			t.Fatalf("%s of %+v wraps: %+v", what, before, after)
		}
		were = were && w.Errors <= w.Total
	}
	if were && after.Errors > after.Total {
		t.Fatalf("%s of %+v has more errors than samples: %+v", what, before, after)
	}
}

func TestCountersDoNotWrap(t *testing.T) {
	all := numbers()
	for _, total := range all {
		for _, errors := range all {
			w := of(total, errors, 1)
			checkCounters(t, "Count", window.Count(w, false), w)
			checkCounters(t, "Count", window.Count(w, true), w)
			checkCounters(t, "Merge", window.Merge(w), w)
			checkCounters(t, "Merge", window.Merge(w, w), w)
			for _, length := range []int{1, 2, 3} {
				if next, closed := window.Tick(w, length); !closed && (next.Total != total || next.Errors != errors) {
					t.Fatalf("Tick(%+v, %d) = %+v", w, length, next)
				}
			}
		}
	}
	r := rand.New(rand.NewSource(7))
	for range 50000 {
		a, b, c := arbitrary(r), sound(r), sound(r)
		checkCounters(t, "Count", window.Count(a, true), a)
		checkCounters(t, "Merge", window.Merge(a, b, c), a, b, c)
		checkCounters(t, "Merge", window.Merge(c, b), b, c)
	}
}

// Windows that begin with no more errors than samples have never more of them, whatever
// is done with them.
func TestErrorsStayBelowTotal(t *testing.T) {
	r := rand.New(rand.NewSource(8))
	for range 2000 {
		w := sound(r)
		if w.Errors > w.Total {
			t.Fatalf("%+v is not sound", w)
		}
		if r.Intn(3) == 0 {
			w = of(-1-r.Intn(5), math.MinInt+r.Intn(5), w.Age)
		}
		for range 50 {
			before := w
			switch r.Intn(6) {
			case 0:
				w, _ = window.Tick(w, r.Intn(200))
			case 1:
				w = window.Merge(w, sound(r))
				checkCounters(t, "Merge", w, before)
			case 2:
				w = window.Merge(sound(r), w, w)
				checkCounters(t, "Merge", w, before)
			default:
				w = window.Count(w, r.Intn(4) > 0)
				checkCounters(t, "Count", w, before)
			}
			if w.Errors > w.Total {
				t.Fatalf("%+v behind %+v has more errors than samples", w, before)
			}
		}
	}
}
