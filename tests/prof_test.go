package tests

import (
	"math"
	"math/rand"
	"reflect"
	"slices"
	"testing"

	"loop.example/g00454/impl"
)

// profRight looks at the points one by one, as the document's words have it.
func profRight(p impl.Prof) bool {
	if len(p.Pts) == 0 || len(p.Pts) > 200 {
		return false
	}
	last := impl.Pt{At: -1, Free: impl.Vec{A: -1}}
	for _, pt := range p.Pts {
		if pt.At <= last.At || pt.At > 1000000000 || pt.Free == last.Free || !vecRight(pt.Free) {
			return false
		}
		last = pt
	}
	return p.Pts[0].At == 0
}

// freeAt goes over all points, where the program looks for one.
func freeAt(p impl.Prof, t int) impl.Vec {
	var free impl.Vec
	for _, pt := range p.Pts {
		if pt.At <= t {
			free = pt.Free
		}
	}
	return free
}

// tellingTimes has all times at which what is free may change, and their neighbours; between them all is the same.
func tellingTimes(p impl.Prof, more ...int) []int {
	var l []int
	for _, pt := range p.Pts {
		more = append(more, pt.At)
	}
	for _, t := range append(more, 0, impl.MaxTime) {
		for _, near := range []int{t - 1, t, t + 1} {
			if near >= 0 && near <= impl.MaxTime {
				l = append(l, near)
			}
		}
	}
	slices.Sort(l)
	return slices.Compact(l)
}

// fewOf has of many times those at both ends and some between, so that a test of each pair ends soon.
func fewOf(times []int) []int {
	n := len(times)
	if n <= 60 {
		return times
	}
	return slices.Concat(times[:20], times[n/2-5:n/2+5], times[n-20:])
}

// profOf has the points at which free changes, looked for at these rising times.
func profOf(times []int, free func(int) impl.Vec) impl.Prof {
	var p impl.Prof
	for _, t := range times {
		if n := len(p.Pts); n == 0 || p.Pts[n-1].Free != free(t) {
			p.Pts = append(p.Pts, impl.Pt{At: t, Free: free(t)})
		}
	}
	return p
}

// steps has n points, gap apart, whose amounts go up and down.
func steps(n, gap int) impl.Prof {
	var p impl.Prof
	for i := range n {
		p.Pts = append(p.Pts, impl.Pt{At: i * gap, Free: impl.Vec{A: 10 + i%2, B: 10 + i%3, C: 500000}})
	}
	return p
}

// lastAtEnd is steps with its last point at MaxTime.
func lastAtEnd(n, gap int) impl.Prof {
	p := steps(n, gap)
	p.Pts[n-1].At = impl.MaxTime
	return p
}

func pts(l ...impl.Pt) impl.Prof { return impl.Prof{Pts: l} }

func at(t, a, b, c int) impl.Pt { return impl.Pt{At: t, Free: impl.Vec{A: a, B: b, C: c}} }

// smallProfs has right profiles whose points all lie ahead of the time 9, so that each of their spans can be tried.
func smallProfs() []impl.Prof {
	l := []impl.Prof{
		pts(at(0, 0, 0, 0)), pts(at(0, 2, 1, 3)), pts(at(0, impl.MaxRes, impl.MaxRes, impl.MaxRes)),
		pts(at(0, 3, 3, 3), at(1, 1, 3, 3)), pts(at(0, 3, 3, 3), at(5, 3, 2, 3)), pts(at(0, 0, 3, 1), at(8, 3, 0, 1)),
		pts(at(0, 3, 3, 3), at(2, 2, 3, 3), at(4, 3, 3, 3)),
		pts(at(0, 1, 2, 3), at(3, 2, 3, 1), at(6, 3, 1, 2)),
		pts(at(0, impl.MaxRes, 0, 5), at(4, impl.MaxRes-1, 1, 5), at(7, impl.MaxRes, 0, 5)),
		pts(at(0, 5, 5, 5), at(1, 4, 5, 5), at(2, 4, 4, 5), at(3, 4, 4, 4), at(4, 3, 4, 4), at(5, 4, 4, 4), at(6, 5, 5, 5), at(8, 0, 0, 0)),
	}
	draw := rand.New(rand.NewSource(4))
	for len(l) < 40 {
		var p impl.Prof
		for t := range 9 {
			p.Pts = append(p.Pts, at(t, draw.Intn(3), draw.Intn(2), 3))
		}
		l = append(l, tidy(p))
	}
	return l
}

// tidy leaves out the points that change nothing.
func tidy(p impl.Prof) impl.Prof {
	return impl.Prof{Pts: slices.CompactFunc(slices.Clone(p.Pts), func(a, b impl.Pt) bool { return a.Free == b.Free })}
}

// someProfs has the small ones, those at the edges of the chapter, and some drawn ones, always the same.
func someProfs() []impl.Prof {
	l := append(smallProfs(),
		steps(2, impl.MaxTime), steps(2, impl.MaxTime-1), steps(3, impl.MaxTime/2),
		steps(199, 1), steps(200, 1), steps(200, 2), steps(200, 5000000), lastAtEnd(200, 3), lastAtEnd(2, 1),
		pts(at(0, impl.MaxRes, 0, 0), at(impl.MaxTime, 0, impl.MaxRes, impl.MaxRes)),
		pts(at(0, 7, 7, 7), at(impl.MaxTime-1, 6, 7, 7), at(impl.MaxTime, 7, 7, 7)))
	draw := rand.New(rand.NewSource(5))
	for range 40 {
		times := []int{0}
		for range draw.Intn(25) {
			times = append(times, draw.Intn(impl.MaxTime+1))
		}
		slices.Sort(times)
		var p impl.Prof
		for _, t := range slices.Compact(times) {
			p.Pts = append(p.Pts, at(t, draw.Intn(4), draw.Intn(3), draw.Intn(impl.MaxRes+1)))
		}
		l = append(l, tidy(p))
	}
	return l
}

// wrongProfs has a name for each way in which a profile isn't right.
func wrongProfs() map[string]impl.Prof {
	last := func(p impl.Prof, pt impl.Pt) impl.Prof {
		p.Pts[len(p.Pts)-1] = pt
		return p
	}
	return map[string]impl.Prof{
		"no point": {}, "a list without points": {Pts: []impl.Pt{}},
		"one point too many": steps(201, 1), "far too many points": steps(5000, 1), "one too many up to the end": lastAtEnd(201, 1),
		"a first at 1": pts(at(1, 1, 1, 1)), "a first at -1": pts(at(-1, 1, 1, 1)), "a first at the end": pts(at(impl.MaxTime, 1, 1, 1)),
		"a first at 1 of two": pts(at(1, 1, 1, 1), at(2, 2, 2, 2)), "a first at -1 of two": pts(at(-1, 1, 1, 1), at(0, 2, 2, 2)),
		"the least first": pts(at(math.MinInt, 1, 1, 1)), "the greatest first": pts(at(math.MaxInt, 1, 1, 1)),
		"At twice": pts(at(0, 1, 1, 1), at(0, 2, 2, 2)), "At twice, last": pts(at(0, 1, 1, 1), at(5, 2, 2, 2), at(5, 3, 3, 3)),
		"At falls": pts(at(0, 1, 1, 1), at(5, 2, 2, 2), at(4, 3, 3, 3)), "At falls to 0": pts(at(0, 1, 1, 1), at(5, 2, 2, 2), at(0, 3, 3, 3)),
		"At falls below 0": pts(at(0, 1, 1, 1), at(-1, 2, 2, 2)), "the least At": pts(at(0, 1, 1, 1), at(math.MinInt, 2, 2, 2)),
		"At falls in the midst": pts(at(0, 1, 1, 1), at(5, 2, 2, 2), at(3, 3, 3, 3), at(9, 4, 4, 4)),
		"At just too great":     pts(at(0, 1, 1, 1), at(impl.MaxTime+1, 2, 2, 2)), "the greatest At": pts(at(0, 1, 1, 1), at(math.MaxInt, 2, 2, 2)),
		"a room below 0 in A": pts(at(0, -1, 1, 1)), "a room below 0 in B": pts(at(0, 1, -1, 1)), "a room below 0 in C": pts(at(0, 1, 1, -1)),
		"a room too great in A": pts(at(0, impl.MaxRes+1, 1, 1)), "a room too great in B": pts(at(0, 1, impl.MaxRes+1, 1)), "a room too great in C": pts(at(0, 1, 1, impl.MaxRes+1)),
		"a last room below 0": pts(at(0, 1, 1, 1), at(3, 1, 1, -1)), "a last room too great": pts(at(0, 1, 1, 1), at(3, 1, impl.MaxRes+1, 1)),
		"a room below 0 in the midst": pts(at(0, 1, 1, 1), at(3, -1, 1, 1), at(5, 1, 1, 1)),
		"the least room":              pts(at(0, math.MinInt, 1, 1)), "the greatest room": pts(at(0, 1, 1, 1), at(3, math.MaxInt, 1, 1)),
		"the same twice": pts(at(0, 1, 2, 3), at(4, 1, 2, 3)), "the same twice, nothing": pts(at(0, 0, 0, 0), at(5, 0, 0, 0)),
		"the same twice, last": pts(at(0, 1, 2, 3), at(4, 0, 2, 3), at(8, 0, 2, 3)), "the same twice in the midst": pts(at(0, 1, 2, 3), at(4, 0, 2, 3), at(8, 0, 2, 3), at(9, 5, 5, 5)),
		"the last of 200 too late": last(steps(200, 1), at(impl.MaxTime+1, 1, 1, 1)), "the last of 200 not later": last(steps(200, 1), at(198, 1, 1, 1)),
		"the last of 200 not right": last(steps(200, 1), at(199, 1, 1, -1)), "the last of 200 the same": last(steps(200, 1), impl.Pt{At: 199, Free: steps(199, 1).Pts[198].Free}),
	}
}

func sameAnswer(a, b impl.Prof) bool { return slices.Equal(a.Pts, b.Pts) }

func TestProfLimits(t *testing.T) {
	if impl.MaxPts != 200 {
		t.Errorf("MaxPts %d", impl.MaxPts)
	}
}

func TestProfOk(t *testing.T) {
	for _, p := range someProfs() {
		if !profRight(p) || !impl.ProfOk(p) {
			t.Errorf("ProfOk(%v) is false", p)
		}
	}
	for name, p := range wrongProfs() {
		if profRight(p) || impl.ProfOk(p) {
			t.Errorf("ProfOk of %s is true", name)
		}
	}
	for n := range 410 {
		if got := impl.ProfOk(steps(n, 1)); got != (n >= 1 && n <= 200) {
			t.Errorf("ProfOk of %d points is %v", n, got)
		}
	}
}

func TestProfOkOfEveryShortProf(t *testing.T) {
	var each []impl.Pt
	for _, at := range []int{-1, 0, 1, 2, impl.MaxTime, impl.MaxTime + 1} {
		for _, free := range []impl.Vec{{}, {A: 1}, {B: 1}, {C: 1}, {B: -1}, {C: impl.MaxRes + 1}} {
			each = append(each, impl.Pt{At: at, Free: free})
		}
	}
	var grow func(impl.Prof)
	grow = func(p impl.Prof) {
		if got := impl.ProfOk(p); got != profRight(p) {
			t.Errorf("ProfOk(%v) is %v", p, got)
		}
		for _, pt := range each {
			if len(p.Pts) < 3 {
				grow(impl.Prof{Pts: append(slices.Clone(p.Pts), pt)})
			}
		}
	}
	grow(impl.Prof{})
}

func TestProfOkOfEdges(t *testing.T) {
	for _, v := range vecsOf(edges) {
		p := pts(at(0, 3, 3, 3), impl.Pt{At: 4, Free: v}, at(9, 3, 3, 3))
		if got := impl.ProfOk(p); got != vecRight(v) {
			t.Errorf("ProfOk with the room %v is %v", v, got)
		}
	}
	for _, a := range edges {
		for _, b := range edges {
			for _, p := range []impl.Prof{pts(at(a, 1, 1, 1), at(b, 2, 2, 2)), pts(at(0, 0, 0, 0), at(a, 1, 1, 1), at(b, 2, 2, 2))} {
				if got := impl.ProfOk(p); got != profRight(p) {
					t.Errorf("ProfOk(%v) is %v", p, got)
				}
			}
		}
	}
}

func TestProfNew(t *testing.T) {
	for _, v := range vecsOf(edges) {
		want, right := pts(impl.Pt{Free: v}), true
		if !vecRight(v) {
			want, right = impl.Prof{}, false
		}
		if got, ok := impl.ProfNew(v); ok != right || !sameAnswer(got, want) {
			t.Errorf("ProfNew(%v) is %v, %v", v, got, ok)
		}
	}
}

// noTimes has numbers that are no time.
var noTimes = []int{math.MinInt, math.MinInt + 1, -impl.MaxTime, -2, -1, impl.MaxTime + 1, impl.MaxTime + 2, math.MaxInt - 1, math.MaxInt}

func TestProfAt(t *testing.T) {
	for _, p := range someProfs() {
		for _, when := range tellingTimes(p, 1000, impl.MaxTime/2) {
			if got := impl.ProfAt(p, when); got != freeAt(p, when) {
				t.Errorf("ProfAt(%v, %d) is %v", p, when, got)
			}
		}
		for _, when := range noTimes {
			if got := impl.ProfAt(p, when); got != (impl.Vec{}) {
				t.Errorf("ProfAt(%v, %d) is %v", p, when, got)
			}
		}
	}
}

func TestProfAtByHand(t *testing.T) {
	p := pts(at(0, 1, 2, 3), at(10, 4, 5, 6), at(20, 7, 8, 9))
	for _, c := range []struct {
		when int
		want impl.Vec
	}{
		{0, impl.Vec{A: 1, B: 2, C: 3}}, {9, impl.Vec{A: 1, B: 2, C: 3}}, {10, impl.Vec{A: 4, B: 5, C: 6}}, {19, impl.Vec{A: 4, B: 5, C: 6}},
		{20, impl.Vec{A: 7, B: 8, C: 9}}, {21, impl.Vec{A: 7, B: 8, C: 9}}, {impl.MaxTime, impl.Vec{A: 7, B: 8, C: 9}}, {impl.MaxTime + 1, impl.Vec{}}, {-1, impl.Vec{}},
	} {
		if got := impl.ProfAt(p, c.when); got != c.want {
			t.Errorf("ProfAt at %d is %v", c.when, got)
		}
	}
}

// leastOf goes over the times of a span that it is given.
func leastOf(p impl.Prof, times []int, from, to int) impl.Vec {
	least := impl.Vec{A: impl.MaxRes, B: impl.MaxRes, C: impl.MaxRes}
	for _, when := range times {
		if when >= from && when < to {
			v := freeAt(p, when)
			least = impl.Vec{A: min(least.A, v.A), B: min(least.B, v.B), C: min(least.C, v.C)}
		}
	}
	return least
}

func upTo(n int) []int {
	var l []int
	for i := range n + 1 {
		l = append(l, i)
	}
	return l
}

// everySpan calls f with each span that begins and ends at one of the times.
func everySpan(times []int, f func(from, to int)) {
	for i, from := range times {
		for _, to := range times[i+1:] {
			f(from, to)
		}
	}
}

// emptySpans has spans that are empty, run backwards, or begin or end at what is no time.
func emptySpans() [][2]int {
	l := [][2]int{{0, 0}, {5, 5}, {impl.MaxTime, impl.MaxTime}, {1, 0}, {6, 5}, {9, 2}, {impl.MaxTime, 0}, {impl.MaxTime, impl.MaxTime - 1}}
	for _, wrong := range noTimes {
		for _, right := range []int{0, 1, 5, impl.MaxTime} {
			l = append(l, [2]int{wrong, right}, [2]int{right, wrong})
		}
		for _, other := range noTimes {
			l = append(l, [2]int{wrong, other})
		}
	}
	return l
}

func TestProfMin(t *testing.T) {
	least := func(p impl.Prof, times []int, from, to int) {
		if got, ok := impl.ProfMin(p, from, to); !ok || got != leastOf(p, times, from, to) {
			t.Errorf("ProfMin(%v, %d, %d) is %v, %v", p, from, to, got, ok)
		}
	}
	for _, p := range smallProfs() {
		everySpan(upTo(12), func(from, to int) { least(p, upTo(12), from, to) })
	}
	for _, p := range someProfs() {
		everySpan(fewOf(tellingTimes(p, impl.MaxTime/2)), func(from, to int) { least(p, tellingTimes(p, from, to), from, to) })
		for _, span := range emptySpans() {
			if got, ok := impl.ProfMin(p, span[0], span[1]); ok || got != (impl.Vec{}) {
				t.Errorf("ProfMin(%v, %d, %d) is %v, %v", p, span[0], span[1], got, ok)
			}
		}
	}
}

func TestProfMinByHand(t *testing.T) {
	p := pts(at(0, 5, 9, 2), at(10, 3, 9, 4), at(20, 8, 1, 4), at(30, 9, 9, 9))
	for _, c := range []struct {
		from, to int
		want     impl.Vec
	}{
		{0, 1, impl.Vec{A: 5, B: 9, C: 2}}, {0, 10, impl.Vec{A: 5, B: 9, C: 2}}, {0, 11, impl.Vec{A: 3, B: 9, C: 2}}, {9, 10, impl.Vec{A: 5, B: 9, C: 2}},
		{10, 20, impl.Vec{A: 3, B: 9, C: 4}}, {10, 21, impl.Vec{A: 3, B: 1, C: 4}}, {19, 21, impl.Vec{A: 3, B: 1, C: 4}}, {20, 31, impl.Vec{A: 8, B: 1, C: 4}},
		{30, 31, impl.Vec{A: 9, B: 9, C: 9}}, {29, 40, impl.Vec{A: 8, B: 1, C: 4}}, {35, impl.MaxTime, impl.Vec{A: 9, B: 9, C: 9}}, {0, impl.MaxTime, impl.Vec{A: 3, B: 1, C: 2}},
	} {
		if got, ok := impl.ProfMin(p, c.from, c.to); !ok || got != c.want {
			t.Errorf("ProfMin from %d to %d is %v, %v", c.from, c.to, got, ok)
		}
	}
	end := pts(at(0, 7, 7, 7), at(impl.MaxTime, 1, 1, 1))
	if got, ok := impl.ProfMin(end, 0, impl.MaxTime); !ok || got != (impl.Vec{A: 7, B: 7, C: 7}) {
		t.Errorf("ProfMin up to the end is %v, %v", got, ok)
	}
}

func TestProfMinIsFreeAtEachTime(t *testing.T) {
	for _, p := range smallProfs() {
		everySpan(upTo(11), func(from, to int) {
			least, ok := impl.ProfMin(p, from, to)
			var a, b, c bool
			for when := from; when < to; when++ {
				free := impl.ProfAt(p, when)
				ok = ok && impl.VecFits(least, free)
				a, b, c = a || free.A == least.A, b || free.B == least.B, c || free.C == least.C
			}
			if !ok || !a || !b || !c {
				t.Errorf("ProfMin(%v, %d, %d) is %v", p, from, to, least)
			}
			everySpan(upTo(to)[from:], func(later, sooner int) {
				if inner, ok := impl.ProfMin(p, later, sooner); !ok || !impl.VecFits(least, inner) {
					t.Errorf("%v: ProfMin from %d to %d is %v, from %d to %d %v", p, from, to, least, later, sooner, inner)
				}
			})
		})
	}
}

// takenFrom and givenTo work the answer out at every telling time, and find its points from that.
func takenFrom(p impl.Prof, from, to int, v impl.Vec) (impl.Prof, bool) {
	return movedBy(p, from, to, v, -1)
}

func givenTo(p impl.Prof, from, to int, v impl.Vec) (impl.Prof, bool) {
	return movedBy(p, from, to, v, 1)
}

func movedBy(p impl.Prof, from, to int, v impl.Vec, sign int) (impl.Prof, bool) {
	if !profRight(p) || from < 0 || to > 1000000000 || from >= to || !vecRight(v) {
		return impl.Prof{}, false
	}
	q := profOf(tellingTimes(p, from, to), func(when int) impl.Vec {
		free := freeAt(p, when)
		if when >= from && when < to {
			return impl.Vec{A: free.A + sign*v.A, B: free.B + sign*v.B, C: free.C + sign*v.C}
		}
		return free
	})
	if !profRight(q) {
		return impl.Prof{}, false
	}
	return q, true
}

func takeIsRight(t *testing.T, p impl.Prof, from, to int, v impl.Vec) {
	t.Helper()
	want, right := takenFrom(p, from, to, v)
	if got, ok := impl.ProfTake(p, from, to, v); ok != right || !sameAnswer(got, want) {
		t.Errorf("ProfTake(%.300v, %d, %d, %v) is %v, %v, not %v", p, from, to, v, got, ok, right)
	}
}

func giveIsRight(t *testing.T, p impl.Prof, from, to int, v impl.Vec) {
	t.Helper()
	want, right := givenTo(p, from, to, v)
	if got, ok := impl.ProfGive(p, from, to, v); ok != right || !sameAnswer(got, want) {
		t.Errorf("ProfGive(%.300v, %d, %d, %v) is %v, %v, not %v", p, from, to, v, got, ok, right)
	}
}

// someVecs has amounts that fit some small profiles and not others, and the greatest.
func someVecs() []impl.Vec {
	return append(vecsOf([]int{0, 1, 2}),
		impl.Vec{A: 3}, impl.Vec{B: 3}, impl.Vec{C: 3}, impl.Vec{A: 3, B: 3, C: 3}, impl.Vec{C: 4},
		impl.Vec{A: impl.MaxRes}, impl.Vec{A: impl.MaxRes - 1}, impl.Vec{B: impl.MaxRes}, impl.Vec{C: impl.MaxRes}, impl.Vec{C: impl.MaxRes - 3}, impl.Vec{C: impl.MaxRes - 2},
		impl.Vec{A: impl.MaxRes, B: impl.MaxRes, C: impl.MaxRes})
}

func TestProfTakeAndGive(t *testing.T) {
	for _, p := range smallProfs() {
		everySpan([]int{0, 1, 2, 3, 4, 5, 6, 7, 8, 9, 12, impl.MaxTime - 1, impl.MaxTime}, func(from, to int) {
			for _, v := range someVecs() {
				takeIsRight(t, p, from, to, v)
				giveIsRight(t, p, from, to, v)
			}
		})
	}
	draw := rand.New(rand.NewSource(6))
	for _, p := range someProfs() {
		for range 200 {
			times := tellingTimes(p, draw.Intn(impl.MaxTime))
			from, to := times[draw.Intn(len(times))], times[draw.Intn(len(times))]
			v := impl.Vec{A: draw.Intn(3), B: draw.Intn(2), C: draw.Intn(2) * draw.Intn(impl.MaxRes)}
			takeIsRight(t, p, from, to, v)
			giveIsRight(t, p, from, to, v)
		}
	}
}

func TestProfTakeAndGiveOfWrongSpansAndAmounts(t *testing.T) {
	for _, p := range []impl.Prof{pts(at(0, 5, 5, 5)), pts(at(0, 5, 5, 5), at(5, 6, 6, 6)), steps(200, 1)} {
		for _, span := range emptySpans() {
			for _, v := range []impl.Vec{{}, {A: 1}} {
				took, ok := impl.ProfTake(p, span[0], span[1], v)
				gave, also := impl.ProfGive(p, span[0], span[1], v)
				if ok || also || took.Pts != nil || gave.Pts != nil {
					t.Errorf("from %d to %d: ProfTake is %v, %v, ProfGive is %v, %v", span[0], span[1], took, ok, gave, also)
				}
			}
		}
		for _, v := range vecsOf(edges) {
			takeIsRight(t, p, 2, 7, v)
			giveIsRight(t, p, 2, 7, v)
		}
	}
}

func TestProfTakeByHand(t *testing.T) {
	p := pts(at(0, 8, 16, 0), at(10, 5, 16, 0), at(20, 8, 16, 0))
	for name, c := range map[string]struct {
		from, to int
		v        impl.Vec
		want     impl.Prof
		ok       bool
	}{
		"between two points":          {12, 15, impl.Vec{A: 1}, pts(at(0, 8, 16, 0), at(10, 5, 16, 0), at(12, 4, 16, 0), at(15, 5, 16, 0), at(20, 8, 16, 0)), true},
		"just a step":                 {10, 20, impl.Vec{B: 16}, pts(at(0, 8, 16, 0), at(10, 5, 0, 0), at(20, 8, 16, 0)), true},
		"over a point":                {5, 12, impl.Vec{A: 1}, pts(at(0, 8, 16, 0), at(5, 7, 16, 0), at(10, 4, 16, 0), at(12, 5, 16, 0), at(20, 8, 16, 0)), true},
		"up to a point":               {5, 10, impl.Vec{A: 1}, pts(at(0, 8, 16, 0), at(5, 7, 16, 0), at(10, 5, 16, 0), at(20, 8, 16, 0)), true},
		"equal at its end":            {0, 10, impl.Vec{A: 3}, pts(at(0, 5, 16, 0), at(20, 8, 16, 0)), true},
		"equal at its begin":          {20, 30, impl.Vec{A: 3}, pts(at(0, 8, 16, 0), at(10, 5, 16, 0), at(30, 8, 16, 0)), true},
		"equal at its end, in a step": {7, 10, impl.Vec{A: 3}, pts(at(0, 8, 16, 0), at(7, 5, 16, 0), at(20, 8, 16, 0)), true},
		"behind the last one":         {25, 30, impl.Vec{A: 8, B: 16}, pts(at(0, 8, 16, 0), at(10, 5, 16, 0), at(20, 8, 16, 0), at(25, 0, 0, 0), at(30, 8, 16, 0)), true},
		"up to the end":               {25, impl.MaxTime, impl.Vec{A: 1}, pts(at(0, 8, 16, 0), at(10, 5, 16, 0), at(20, 8, 16, 0), at(25, 7, 16, 0), at(impl.MaxTime, 8, 16, 0)), true},
		"all times but the last":      {0, impl.MaxTime, impl.Vec{A: 5}, pts(at(0, 3, 16, 0), at(10, 0, 16, 0), at(20, 3, 16, 0), at(impl.MaxTime, 8, 16, 0)), true},
		"the first time":              {0, 1, impl.Vec{A: 8, B: 16}, pts(at(0, 0, 0, 0), at(1, 8, 16, 0), at(10, 5, 16, 0), at(20, 8, 16, 0)), true},
		"nothing":                     {3, 15, impl.Vec{}, p, true},
		"one too many at one time":    {0, 11, impl.Vec{A: 6}, impl.Prof{}, false},
		"one too many at the last":    {19, 25, impl.Vec{A: 6}, impl.Prof{}, false},
		"not in the step beside":      {20, 25, impl.Vec{A: 6}, pts(at(0, 8, 16, 0), at(10, 5, 16, 0), at(20, 2, 16, 0), at(25, 8, 16, 0)), true},
		"one too many of B":           {0, 5, impl.Vec{B: 17}, impl.Prof{}, false},
		"one too many of C":           {0, 5, impl.Vec{C: 1}, impl.Prof{}, false},
		"below 0":                     {0, 5, impl.Vec{A: -1}, impl.Prof{}, false},
	} {
		if got, ok := impl.ProfTake(p, c.from, c.to, c.v); ok != c.ok || !sameAnswer(got, c.want) {
			t.Errorf("%s: ProfTake is %v, %v", name, got, ok)
		}
	}
}

func TestProfGiveByHand(t *testing.T) {
	p := pts(at(0, 8, 16, 0), at(10, 5, 16, 0), at(20, 8, impl.MaxRes, 0))
	for name, c := range map[string]struct {
		from, to int
		v        impl.Vec
		want     impl.Prof
		ok       bool
	}{
		"just a step":            {10, 20, impl.Vec{A: 3}, pts(at(0, 8, 16, 0), at(20, 8, impl.MaxRes, 0)), true},
		"a step and one more":    {10, 20, impl.Vec{A: 4}, pts(at(0, 8, 16, 0), at(10, 9, 16, 0), at(20, 8, impl.MaxRes, 0)), true},
		"equal on both sides":    {10, 20, impl.Vec{A: 3, B: impl.MaxRes - 16}, pts(at(0, 8, 16, 0), at(10, 8, impl.MaxRes, 0)), true},
		"part of a step":         {12, 20, impl.Vec{A: 3}, pts(at(0, 8, 16, 0), at(10, 5, 16, 0), at(12, 8, 16, 0), at(20, 8, impl.MaxRes, 0)), true},
		"between two points":     {2, 4, impl.Vec{C: impl.MaxRes}, pts(at(0, 8, 16, 0), at(2, 8, 16, impl.MaxRes), at(4, 8, 16, 0), at(10, 5, 16, 0), at(20, 8, impl.MaxRes, 0)), true},
		"behind the last one":    {20, impl.MaxTime, impl.Vec{A: 1}, pts(at(0, 8, 16, 0), at(10, 5, 16, 0), at(20, 9, impl.MaxRes, 0), at(impl.MaxTime, 8, impl.MaxRes, 0)), true},
		"nothing":                {0, impl.MaxTime, impl.Vec{}, p, true},
		"too great at one time":  {19, 21, impl.Vec{B: 1}, impl.Prof{}, false},
		"not at the time beside": {19, 20, impl.Vec{B: 1}, pts(at(0, 8, 16, 0), at(10, 5, 16, 0), at(19, 5, 17, 0), at(20, 8, impl.MaxRes, 0)), true},
		"too great of A":         {0, 1, impl.Vec{A: impl.MaxRes - 7}, impl.Prof{}, false},
		"below 0":                {0, 1, impl.Vec{A: -1}, impl.Prof{}, false},
		"no amount":              {0, 1, impl.Vec{A: impl.MaxRes + 1}, impl.Prof{}, false},
	} {
		if got, ok := impl.ProfGive(p, c.from, c.to, c.v); ok != c.ok || !sameAnswer(got, c.want) {
			t.Errorf("%s: ProfGive is %v, %v", name, got, ok)
		}
	}
}

func TestProfMostPoints(t *testing.T) {
	// The steps are 10 long, with 10 and 11 of A by turns.
	even := func(n int) impl.Prof {
		var p impl.Prof
		for i := range n {
			p.Pts = append(p.Pts, at(10*i, 10+i%2, 10, 10))
		}
		return p
	}
	one := impl.Vec{A: 1}
	for name, c := range map[string]struct {
		p        impl.Prof
		from, to int
		v        impl.Vec
		take     int
		give     int
	}{
		"two more than 198":              {even(198), 11, 12, one, 200, 200},
		"two more than 199":              {even(199), 11, 12, one, 0, 0},
		"two more than 200":              {even(200), 11, 12, one, 0, 0},
		"nothing of 200":                 {even(200), 11, 12, impl.Vec{}, 200, 200},
		"just a step of 200":             {even(200), 20, 30, impl.Vec{B: 1}, 200, 200},
		"one more than 199 at the begin": {even(199), 20, 25, impl.Vec{B: 1}, 200, 200},
		"one more than 200 at the begin": {even(200), 20, 25, impl.Vec{B: 1}, 0, 0},
		"one more than 199 at the end":   {even(199), 25, 30, impl.Vec{B: 1}, 200, 200},
		"one more than 200 at the end":   {even(200), 25, 30, impl.Vec{B: 1}, 0, 0},
		"one less, one more, at 10":      {even(200), 10, 15, one, 200, 0},
		"one less, one more, at 20":      {even(200), 20, 25, one, 0, 200},
		"one more, one less, to 20":      {even(200), 15, 20, one, 200, 0},
		"one more, one less, to 30":      {even(200), 25, 30, one, 0, 200},
		"two less, at 10":                {even(200), 10, 20, one, 198, 200},
		"two less, at 20":                {even(200), 20, 30, one, 200, 198},
		"from the first on":              {even(200), 0, 5, one, 0, 0},
		"from the first on, of 199":      {even(199), 0, 5, one, 200, 200},
		"behind the last of 200":         {even(200), 2000, 2001, one, 0, 0},
		"behind the last of 199":         {even(199), 1990, 2001, one, 0, 0},
		"behind the last of 198":         {even(198), 1990, impl.MaxTime, one, 200, 200},
		"all of 199":                     {even(199), 0, impl.MaxTime, one, 200, 200},
		"all of 200":                     {even(200), 0, impl.MaxTime, one, 0, 0},
		"all of 200 up to its last":      {even(200), 0, 1990, impl.Vec{C: 1}, 200, 200},
	} {
		took, ok := impl.ProfTake(c.p, c.from, c.to, c.v)
		gave, also := impl.ProfGive(c.p, c.from, c.to, c.v)
		if len(took.Pts) != c.take || ok != (c.take > 0) || len(gave.Pts) != c.give || also != (c.give > 0) {
			t.Errorf("%s: taken %d points, %v, given %d points, %v", name, len(took.Pts), ok, len(gave.Pts), also)
		}
		takeIsRight(t, c.p, c.from, c.to, c.v)
		giveIsRight(t, c.p, c.from, c.to, c.v)
	}
}

// taken is what somebody has of a room, from a time on and before another.
type taken struct {
	from, to int
	v        impl.Vec
}

// leftAt is what was there less what was taken at that time.
func leftAt(whole impl.Vec, l []taken, when int) impl.Vec {
	for _, k := range l {
		if k.from <= when && when < k.to {
			whole = impl.Vec{A: whole.A - k.v.A, B: whole.B - k.v.B, C: whole.C - k.v.C}
		}
	}
	return whole
}

func leftIsRight(t *testing.T, p impl.Prof, whole impl.Vec, l []taken) {
	t.Helper()
	for _, when := range append(upTo(34), impl.MaxTime-1, impl.MaxTime) {
		if got := impl.ProfAt(p, when); got != leftAt(whole, l, when) {
			t.Fatalf("of %v less %v at %d is free %v", whole, l, when, got)
		}
	}
	if !profRight(p) {
		t.Fatalf("of %v less %v is left %v", whole, l, p)
	}
}

func drawnTaken(draw *rand.Rand) taken {
	from := draw.Intn(30)
	return taken{from, from + 1 + draw.Intn(33-from), impl.Vec{A: draw.Intn(4), B: draw.Intn(3), C: draw.Intn(2)}}
}

func fitsAll(whole impl.Vec, l []taken, k taken) bool {
	for when := k.from; when < k.to; when++ {
		left := leftAt(whole, l, when)
		if k.v.A > left.A || k.v.B > left.B || k.v.C > left.C {
			return false
		}
	}
	return true
}

func TestRoomIsWhatWasThereLessWhatWasTaken(t *testing.T) {
	draw := rand.New(rand.NewSource(7))
	for range 60 {
		whole := impl.Vec{A: 1 + draw.Intn(12), B: draw.Intn(9), C: draw.Intn(4)}
		p, _ := impl.ProfNew(whole)
		first, has := p, []taken{}
		for range 30 {
			k := drawnTaken(draw)
			q, ok := impl.ProfTake(p, k.from, k.to, k.v)
			if ok != fitsAll(whole, has, k) {
				t.Fatalf("of %v less %v can %v be taken: %v", whole, has, k, ok)
			}
			if ok {
				p, has = q, append(has, k)
			}
			leftIsRight(t, p, whole, has)
		}
		for len(has) > 0 {
			i := draw.Intn(len(has))
			k := has[i]
			has = slices.Delete(slices.Clone(has), i, i+1)
			q, ok := impl.ProfGive(p, k.from, k.to, k.v)
			if !ok {
				t.Fatalf("%v can't be given back to %v", k, p)
			}
			p = q
			leftIsRight(t, p, whole, has)
		}
		if !impl.SameProf(p, first) {
			t.Fatalf("of %v all is given back: %v", whole, p)
		}
	}
}

func TestTakenIsFreeNoMoreAndNothingElse(t *testing.T) {
	for _, p := range smallProfs() {
		everySpan(upTo(11), func(from, to int) {
			v, _ := impl.ProfMin(p, from, to)
			q, ok := impl.ProfTake(p, from, to, v)
			if !ok || !impl.ProfOk(q) {
				t.Fatalf("ProfTake(%v, %d, %d) of all that is free is %v, %v", p, from, to, q, ok)
			}
			for when := range 14 {
				want := impl.ProfAt(p, when)
				if when >= from && when < to {
					want, _ = impl.VecSub(want, v)
				}
				if got := impl.ProfAt(q, when); got != want {
					t.Errorf("ProfTake(%v, %d, %d, %v) has %v free at %d", p, from, to, v, got, when)
				}
			}
			for _, more := range []impl.Vec{{A: v.A + 1}, {B: v.B + 1}, {C: v.C + 1}} {
				if got, ok := impl.ProfTake(p, from, to, more); ok || got.Pts != nil {
					t.Errorf("ProfTake(%v, %d, %d, %v) is %v, %v", p, from, to, more, got, ok)
				}
			}
		})
	}
}

func TestTakenAndGivenBackLeavesNoTrace(t *testing.T) {
	draw := rand.New(rand.NewSource(8))
	took, gave := 0, 0
	for _, p := range someProfs() {
		for range 200 {
			times := tellingTimes(p, draw.Intn(impl.MaxTime), draw.Intn(20))
			from, to := times[draw.Intn(len(times))], times[draw.Intn(len(times))]
			v := impl.Vec{A: draw.Intn(3), B: draw.Intn(2), C: draw.Intn(3)}
			if q, ok := impl.ProfTake(p, from, to, v); ok {
				took++
				if back, ok := impl.ProfGive(q, from, to, v); !ok || !sameAnswer(back, p) || !impl.SameProf(back, p) {
					t.Errorf("%v from %d to %d, taken and given back, leaves %v of %v", v, from, to, back, p)
				}
			}
			if q, ok := impl.ProfGive(p, from, to, v); ok {
				gave++
				if back, ok := impl.ProfTake(q, from, to, v); !ok || !sameAnswer(back, p) || !impl.SameProf(back, p) {
					t.Errorf("%v from %d to %d, given and taken back, leaves %v of %v", v, from, to, back, p)
				}
			}
		}
	}
	if took < 1000 || gave < 1000 {
		t.Errorf("taken %d times, given %d times: too few to tell", took, gave)
	}
}

func TestProfCut(t *testing.T) {
	for _, p := range someProfs() {
		for _, when := range fewOf(tellingTimes(p, 1000, impl.MaxTime/2)) {
			want := profOf(tellingTimes(p), func(other int) impl.Vec { return freeAt(p, max(when, other)) })
			got := impl.ProfCut(p, when)
			if !sameAnswer(got, want) || !impl.ProfOk(got) {
				t.Errorf("ProfCut(%v, %d) is %v", p, when, got)
			}
			for _, other := range tellingTimes(p, when) {
				if impl.ProfAt(got, other) != impl.ProfAt(p, max(when, other)) {
					t.Errorf("ProfCut(%v, %d) has %v free at %d", p, when, impl.ProfAt(got, other), other)
				}
			}
		}
		for _, when := range noTimes {
			if got := impl.ProfCut(p, when); got.Pts != nil {
				t.Errorf("ProfCut(%v, %d) is %v", p, when, got)
			}
		}
	}
}

func TestProfCutByHand(t *testing.T) {
	p := pts(at(0, 8, 0, 1), at(10, 5, 0, 1), at(20, 8, 0, 1), at(impl.MaxTime, 2, 2, 2))
	for when, want := range map[int]impl.Prof{
		0: p, 9: p,
		10: pts(at(0, 5, 0, 1), at(20, 8, 0, 1), at(impl.MaxTime, 2, 2, 2)), 19: pts(at(0, 5, 0, 1), at(20, 8, 0, 1), at(impl.MaxTime, 2, 2, 2)),
		20: pts(at(0, 8, 0, 1), at(impl.MaxTime, 2, 2, 2)), impl.MaxTime - 1: pts(at(0, 8, 0, 1), at(impl.MaxTime, 2, 2, 2)),
		impl.MaxTime: pts(at(0, 2, 2, 2)), impl.MaxTime + 1: {}, -1: {},
	} {
		if got := impl.ProfCut(p, when); !sameAnswer(got, want) {
			t.Errorf("ProfCut at %d is %v", when, got)
		}
	}
}

func TestProfTimes(t *testing.T) {
	for _, p := range someProfs() {
		var want []int
		for _, pt := range p.Pts {
			want = append(want, pt.At)
		}
		if got := impl.ProfTimes(p); !slices.Equal(got, want) {
			t.Errorf("ProfTimes(%v) is %v", p, got)
		}
	}
}

func profCopy(p impl.Prof) impl.Prof { return impl.Prof{Pts: slices.Clone(p.Pts)} }

func TestSameProf(t *testing.T) {
	all := someProfs()
	for _, a := range all {
		for _, b := range all {
			if got := impl.SameProf(a, profCopy(b)); got != reflect.DeepEqual(a, b) {
				t.Errorf("SameProf(%v, %v) is %v", a, b, got)
			}
		}
		for i := range a.Pts {
			for _, move := range []impl.Pt{{At: 1}, {At: -1}, {Free: impl.Vec{A: 1}}, {Free: impl.Vec{B: 1}}, {Free: impl.Vec{C: 1}}} {
				b := profCopy(a)
				b.Pts[i].At += move.At
				b.Pts[i].Free = impl.Vec{A: b.Pts[i].Free.A + move.Free.A, B: b.Pts[i].Free.B + move.Free.B, C: b.Pts[i].Free.C + move.Free.C}
				if impl.SameProf(a, b) || impl.SameProf(b, a) {
					t.Errorf("SameProf(%v, %v) is true", a, b)
				}
			}
		}
		if shorter := (impl.Prof{Pts: a.Pts[:len(a.Pts)-1]}); impl.SameProf(a, shorter) || impl.SameProf(shorter, a) {
			t.Errorf("SameProf(%v, %v) is true", a, shorter)
		}
	}
}

func TestOfWrongProfs(t *testing.T) {
	for name, p := range wrongProfs() {
		for _, when := range []int{math.MinInt, -1, 0, 1, 5, 300, impl.MaxTime, impl.MaxTime + 1, math.MaxInt} {
			if impl.ProfAt(p, when) != (impl.Vec{}) || impl.ProfCut(p, when).Pts != nil {
				t.Errorf("%s: what is free at %d, or the cut there, is something", name, when)
			}
		}
		for _, span := range append(emptySpans(), [2]int{0, 1}, [2]int{0, impl.MaxTime}, [2]int{4, 6}, [2]int{3, 300}, [2]int{impl.MaxTime - 1, impl.MaxTime}) {
			if got, ok := impl.ProfMin(p, span[0], span[1]); ok || got != (impl.Vec{}) {
				t.Errorf("%s: ProfMin of %v is %v, %v", name, span, got, ok)
			}
			for _, v := range []impl.Vec{{}, {A: 1}, {A: -1}, {C: impl.MaxRes}} {
				took, ok := impl.ProfTake(p, span[0], span[1], v)
				gave, also := impl.ProfGive(p, span[0], span[1], v)
				if ok || also || took.Pts != nil || gave.Pts != nil {
					t.Errorf("%s: ProfTake of %v is %v, %v, ProfGive is %v, %v", name, span, took, ok, gave, also)
				}
			}
		}
		right := pts(at(0, 1, 1, 1))
		if len(impl.ProfTimes(p)) != 0 || impl.SameProf(p, p) || impl.SameProf(p, profCopy(p)) || impl.SameProf(p, right) || impl.SameProf(right, p) {
			t.Errorf("%s: there are times, or it is the same as something", name)
		}
	}
}

// profAnswers has all profiles that are worked out of p.
func profAnswers(p impl.Prof) []impl.Prof {
	var l []impl.Prof
	for _, v := range []impl.Vec{{}, {A: 1}} {
		for _, span := range [][2]int{{0, 1}, {0, impl.MaxTime}, {2, 5}, {impl.MaxTime - 1, impl.MaxTime}} {
			took, _ := impl.ProfTake(p, span[0], span[1], v)
			gave, _ := impl.ProfGive(p, span[0], span[1], v)
			l = append(l, took, gave)
		}
	}
	return append(l, impl.ProfCut(p, 0), impl.ProfCut(p, 4), impl.ProfCut(p, impl.MaxTime))
}

func TestProfArgumentsAreLeftAlone(t *testing.T) {
	for _, p := range someProfs() {
		kept := profCopy(p)
		// Behind what is handed in lies memory that a careless append would write to.
		room := append(slices.Clone(p.Pts), make([]impl.Pt, 8)...)
		for i := len(p.Pts); i < len(room); i++ {
			room[i] = at(-3, -3, -3, -3)
		}
		given := impl.Prof{Pts: room[:len(p.Pts)]}
		for _, answer := range profAnswers(given) {
			for i := range answer.Pts[:cap(answer.Pts)] {
				answer.Pts[:cap(answer.Pts)][i] = at(-7, -7, -7, -7)
			}
		}
		times := impl.ProfTimes(given)
		for i := range times {
			times[i] = -7
		}
		impl.ProfOk(given)
		impl.ProfAt(given, 3)
		impl.ProfMin(given, 1, 7)
		impl.SameProf(given, given)
		if !reflect.DeepEqual(given, kept) {
			t.Errorf("%v has become %v", kept, given)
		}
		for _, pt := range room[len(p.Pts):] {
			if pt != at(-3, -3, -3, -3) {
				t.Errorf("behind %v has come %v", kept, pt)
			}
		}
	}
}

func TestProfAnswersAreKeptByNobody(t *testing.T) {
	for _, p := range someProfs() {
		once, again := profAnswers(p), profAnswers(p)
		for _, answer := range once {
			for i := range answer.Pts {
				answer.Pts[i] = at(-7, -7, -7, -7)
			}
		}
		if !reflect.DeepEqual(again, profAnswers(p)) {
			t.Errorf("the answers of %v have changed", p)
		}
	}
	once, _ := impl.ProfNew(impl.Vec{A: 4})
	once.Pts[0].Free.A = 9
	if again, ok := impl.ProfNew(impl.Vec{A: 4}); !ok || !sameAnswer(again, pts(at(0, 4, 0, 0))) {
		t.Errorf("the second ProfNew is %v, %v", again, ok)
	}
	p := steps(3, 5)
	impl.ProfTimes(p)[1] = 9
	if got := impl.ProfTimes(p); !slices.Equal(got, []int{0, 5, 10}) {
		t.Errorf("the second ProfTimes is %v", got)
	}
}
