package tests

import (
	"fmt"
	"math"
	"math/rand"
	"reflect"
	"slices"
	"testing"

	"loop.example/g00454/impl"
)

// dueAhead is what the document says of the order of two Dues.
func dueAhead(a, b impl.Due) bool {
	if a.At != b.At {
		return a.At < b.At
	}
	return a.Id < b.Id
}

func dueRight(d impl.Due) bool {
	return d.At >= 0 && d.At <= 1000000000 && d.Id >= 1 && d.Id <= 999
}

// heapRight looks from each place at the two below it, where the program looks from each one at the one above it.
func heapRight(l []impl.Due) bool {
	for i, d := range l {
		for _, below := range []int{2*i + 1, 2*i + 2} {
			if below < len(l) && dueAhead(l[below], d) {
				return false
			}
		}
		if !dueRight(d) {
			return false
		}
	}
	return len(l) <= 200
}

// exchanged has the Dues of two places changed; it is a list of its own.
func exchanged(l []impl.Due, i, k int) []impl.Due {
	l = slices.Clone(l)
	l[i], l[k] = l[k], l[i]
	return l
}

// risen lets the one at place i change places upwards, a list behind the other.
func risen(l []impl.Due, i int) []impl.Due {
	if up := (i - 1) / 2; i > 0 && dueAhead(l[i], l[up]) {
		return risen(exchanged(l, i, up), up)
	}
	return l
}

// sunk lets the one at place i change places downwards, a list behind the other; of two that are alike it is the one at 2 i + 1.
func sunk(l []impl.Due, i int) []impl.Due {
	least := -1
	for _, below := range []int{2*i + 1, 2*i + 2} {
		if below < len(l) && (least < 0 || dueAhead(l[below], l[least])) {
			least = below
		}
	}
	if least >= 0 && dueAhead(l[least], l[i]) {
		return sunk(exchanged(l, i, least), least)
	}
	return l
}

func pushOf(l []impl.Due, d impl.Due) ([]impl.Due, bool) {
	if !heapRight(l) || !dueRight(d) || len(l)+1 > 200 {
		return nil, false
	}
	return risen(append(slices.Clone(l), d), len(l)), true
}

func popOf(l []impl.Due) (impl.Due, []impl.Due, bool) {
	if !heapRight(l) || len(l) == 0 {
		return impl.Due{}, nil, false
	}
	last := len(l) - 1
	return l[0], sunk(exchanged(l, 0, last)[:last], 0), true
}

func heapOf(l []impl.Due) ([]impl.Due, bool) {
	var h []impl.Due
	for _, d := range l {
		more, ok := pushOf(h, d)
		if !ok {
			return nil, false
		}
		h = more
	}
	return h, true
}

func heapAllOf(l []impl.Due) []impl.Due {
	var all []impl.Due
	for d, rest, ok := popOf(l); ok; d, rest, ok = popOf(rest) {
		all = append(all, d)
	}
	return all
}

func duesOf(s impl.State) []impl.Due {
	if !stateRight(s) {
		return nil
	}
	var l []impl.Due
	for _, run := range s.Runs {
		l = append(l, due(run.At+run.Job.Wall, run.Job.Id))
	}
	return l
}

func due(at, id int) impl.Due { return impl.Due{At: at, Id: id} }

// dues has these Dues, each as its At and its Id.
func dues(l ...int) []impl.Due {
	var all []impl.Due
	for i := 0; i < len(l); i += 2 {
		all = append(all, due(l[i], l[i+1]))
	}
	return all
}

// times has a Due with the Id 1 for each of these.
func times(l ...int) []impl.Due {
	var all []impl.Due
	for _, at := range l {
		all = append(all, due(at, 1))
	}
	return all
}

// plainlySorted puts each one behind all that don't come behind it.
func plainlySorted(l []impl.Due) []impl.Due {
	var sorted []impl.Due
	for _, d := range l {
		i := len(sorted)
		for i > 0 && dueAhead(d, sorted[i-1]) {
			i--
		}
		sorted = slices.Insert(sorted, i, d)
	}
	return sorted
}

func duesText(l []impl.Due, ok bool) string { return fmt.Sprint(ok, len(l), l) }

func popText(d impl.Due, rest []impl.Due, ok bool) string { return fmt.Sprint(d, ok, len(rest), rest) }

// drawnDues has n right Dues of one of several kinds: equal times, equal Ids, equal in both, rising, falling, mixed.
func drawnDues(draw *rand.Rand, n int) []impl.Due {
	kind := draw.Intn(8)
	l := make([]impl.Due, n)
	for i := range l {
		switch kind {
		case 0:
			l[i] = due(7, 1+draw.Intn(999))
		case 1:
			l[i] = due(draw.Intn(1000000001), 3)
		case 2:
			l[i] = due(7, 3)
		case 3:
			l[i] = due(draw.Intn(3), 1+draw.Intn(3))
		case 4:
			l[i] = due(draw.Intn(20), 1+draw.Intn(999))
		default:
			l[i] = due(draw.Intn(1000000001), 1+draw.Intn(999))
		}
	}
	switch draw.Intn(4) {
	case 0:
		l = plainlySorted(l)
	case 1:
		l = plainlySorted(l)
		slices.Reverse(l)
	}
	return l
}

// someSizes has the edges of how many Dues there may be, and some drawn between.
func someSizes(draw *rand.Rand) []int {
	l := []int{0, 1, 2, 3, 4, 5, 6, 7, 8, 15, 16, 63, 64, 127, 128, 198, 199, 200}
	for range 30 {
		l = append(l, draw.Intn(201))
	}
	return l
}

func drawnLists(seed int64) [][]impl.Due {
	var l [][]impl.Due
	draw := rand.New(rand.NewSource(seed))
	for range 12 {
		for _, n := range someSizes(draw) {
			l = append(l, drawnDues(draw, n))
		}
	}
	return l
}

// drawnHeaps has right heaps: as they come of a list, the sorted list itself, and what pops have left.
func drawnHeaps(seed int64) [][]impl.Due {
	var heaps [][]impl.Due
	draw := rand.New(rand.NewSource(seed))
	for _, l := range drawnLists(seed) {
		h, _ := heapOf(l)
		for range draw.Intn(4) {
			if _, rest, ok := popOf(h); ok {
				h = rest
			}
		}
		heaps = append(heaps, h, plainlySorted(l))
	}
	return heaps
}

// shortLists has every list of up to so many of these.
func shortLists(most int, of []impl.Due) [][]impl.Due {
	l := [][]impl.Due{nil}
	for from := 0; most > 0; most-- {
		till := len(l)
		for _, short := range l[from:till] {
			for _, d := range of {
				l = append(l, append(slices.Clone(short), d))
			}
		}
		from = till
	}
	return l
}

// fewDues has Dues of which every order, and every likeness, can be made.
func fewDues() []impl.Due { return dues(0, 1, 0, 2, 1, 1, 2, 1) }

// wrongDues has Dues that are not right, each for one cause.
func wrongDues() []impl.Due {
	return append(dues(0, 0, 5, 0, 5, -1, 5, 1000, 5, math.MinInt, 5, math.MaxInt, 0, 1000, 1000000000, 0),
		dues(-1, 1, -1, 999, 1000000001, 1, 1000000001, 999, math.MinInt, 1, math.MaxInt, 1, math.MinInt, math.MinInt, math.MaxInt, math.MaxInt)...)
}

// edgeDues has right Dues at the edges.
func edgeDues() []impl.Due {
	return dues(0, 1, 0, 999, 1, 1, 5, 998, 999999999, 2, 1000000000, 1, 1000000000, 999)
}

// someDues has n Dues that are right and rise.
func someDues(n int) []impl.Due {
	var l []impl.Due
	for i := range n {
		l = append(l, due(10+i/2, 1+i%2))
	}
	return l
}

// wrongHeaps has lists that are no right heaps, each for one cause.
func wrongHeaps() map[string][]impl.Due {
	l := map[string][]impl.Due{
		"the one child comes first":                  times(2, 1),
		"the one child comes first by its Id":        dues(2, 5, 2, 4),
		"the left child comes first":                 times(2, 1, 3),
		"the right child comes first":                times(2, 3, 1),
		"the right child comes first by its Id":      dues(2, 5, 2, 6, 2, 4),
		"both children come first":                   times(2, 1, 1),
		"an only child at the last place":            times(1, 2, 3, 1),
		"a second child at the last place":           times(1, 2, 3, 4, 1),
		"a child of the right one at the last place": times(1, 2, 3, 4, 5, 2),
		"the first place of many":                    append(times(11), someDues(100)...),
		"the last place of the most":                 append(someDues(199), due(10, 1)),
		"one more than MaxHeap":                      someDues(201),
		"one more than MaxHeap, all alike":           slices.Repeat(times(5), 201),
		"two more than MaxHeap":                      someDues(202),
		"very many":                                  someDues(100000),
		"very many of nothing":                       make([]impl.Due, 100000),
		"falling":                                    times(5, 4, 3, 2, 1),
	}
	for _, d := range wrongDues() {
		l[fmt.Sprint("only ", d)] = []impl.Due{d}
		l[fmt.Sprint(d, " first")] = append([]impl.Due{d}, times(1000000000, 1000000000)...)
		l[fmt.Sprint(d, " last")] = append(times(0, 0), d)
		l[fmt.Sprint(d, " last of many")] = append(someDues(150), d)
		l[fmt.Sprint(d, " last of the most")] = append(someDues(199), d)
	}
	return l
}

func TestHeapLimits(t *testing.T) {
	if impl.MaxHeap != 200 {
		t.Errorf("MaxHeap is %d", impl.MaxHeap)
	}
}

func TestDueFirst(t *testing.T) {
	var l []impl.Due
	for _, at := range edges {
		for _, id := range []int{math.MinInt, -1, 0, 1, 2, 998, 999, 1000, math.MaxInt} {
			l = append(l, due(at, id))
		}
	}
	for _, a := range l {
		for _, b := range l {
			first, second := impl.DueFirst(a, b), impl.DueFirst(b, a)
			if first != dueAhead(a, b) {
				t.Errorf("DueFirst(%v, %v) is %v", a, b, first)
			}
			if first && second || (first || second) != (a != b) {
				t.Errorf("DueFirst of %v and %v is %v one way, %v the other", a, b, first, second)
			}
		}
	}
}

func TestDueFirstByHand(t *testing.T) {
	for _, c := range []struct {
		a, b impl.Due
		want bool
	}{
		{due(1, 1), due(2, 1), true},
		{due(2, 1), due(1, 1), false},
		{due(1, 999), due(2, 1), true},
		{due(2, 1), due(1, 999), false},
		{due(1, 1), due(1, 2), true},
		{due(1, 2), due(1, 1), false},
		{due(1, 1), due(1, 1), false},
		{due(0, 0), due(0, 0), false},
		{due(-1, 5), due(0, 5), true},
		{due(math.MinInt, 1), due(math.MaxInt, 1), true},
		{due(math.MaxInt, 1), due(math.MinInt, 1), false},
		{due(5, math.MinInt), due(5, math.MaxInt), true},
		{due(5, math.MaxInt), due(5, math.MinInt), false},
	} {
		if got := impl.DueFirst(c.a, c.b); got != c.want {
			t.Errorf("DueFirst(%v, %v) is %v", c.a, c.b, got)
		}
	}
}

func TestHeapOk(t *testing.T) {
	for _, h := range drawnHeaps(139) {
		if !heapRight(h) || !impl.HeapOk(h) {
			t.Errorf("HeapOk(%v) is false", h)
		}
	}
	right, wrong := 0, 0
	for _, l := range append(shortLists(6, fewDues()), shortLists(3, append(edgeDues(), wrongDues()...))...) {
		want := heapRight(l)
		if impl.HeapOk(l) != want {
			t.Errorf("HeapOk(%v) is not %v", l, want)
		}
		if want {
			right++
		} else {
			wrong++
		}
	}
	if right < 800 || wrong < 4000 {
		t.Errorf("%d right lists, %d wrong ones: too few to tell", right, wrong)
	}
	for name, l := range wrongHeaps() {
		if heapRight(l) || impl.HeapOk(l) {
			t.Errorf("%s: HeapOk is true", name)
		}
	}
}

func TestHeapOkByHand(t *testing.T) {
	for name, l := range map[string][]impl.Due{
		"nil":                      nil,
		"none":                     {},
		"one":                      times(5),
		"At 0":                     times(0),
		"At MaxTime":               times(impl.MaxTime),
		"the Id 1":                 dues(5, 1),
		"the Id MaxId":             dues(5, impl.MaxId),
		"two":                      times(1, 2),
		"two alike":                times(1, 1),
		"two of one time":          dues(1, 4, 1, 5),
		"two children that fall":   times(1, 3, 2),
		"one child's child":        times(1, 3, 2, 3),
		"a later one ahead of it":  times(1, 5, 2, 6, 7, 3),
		"MaxHeap":                  someDues(200),
		"MaxHeap, all alike":       slices.Repeat(times(5), 200),
		"one less than MaxHeap":    someDues(199),
		"all edges, one under one": edgeDues(),
	} {
		if !heapRight(l) || !impl.HeapOk(l) {
			t.Errorf("%s: HeapOk is false", name)
		}
	}
}

// Every place of a heap, its last one too, holds its Due against the one above it.
func TestHeapOkAtEveryPlace(t *testing.T) {
	for _, n := range []int{1, 2, 3, 4, 5, 6, 7, 30, 31, 32, 199, 200} {
		l := slices.Repeat(dues(50, 50), n)
		for i := range l {
			for _, c := range []struct {
				d    impl.Due
				want bool
			}{{due(49, 50), i == 0}, {due(50, 49), i == 0}, {due(50, 51), 2*i+1 >= n}, {due(51, 50), 2*i+1 >= n}, {due(-1, 50), false}, {due(1000000001, 50), false}, {due(50, 0), false}, {due(50, 1000), false}} {
				h := slices.Clone(l)
				h[i] = c.d
				if got := impl.HeapOk(h); got != c.want || heapRight(h) != c.want {
					t.Errorf("%d alike, at place %d %v: HeapOk is %v", n, i, c.d, got)
				}
			}
		}
	}
}

func TestHeapPush(t *testing.T) {
	draw := rand.New(rand.NewSource(140))
	pushed := 0
	for _, h := range drawnHeaps(141) {
		for _, d := range append(drawnDues(draw, 3), due(0, 1), due(impl.MaxTime, impl.MaxId), due(7, 3)) {
			want, right := pushOf(h, d)
			got, ok := impl.HeapPush(h, d)
			if duesText(got, ok) != duesText(want, right) {
				t.Errorf("HeapPush(%v, %v) is %s, not %s", h, d, duesText(got, ok), duesText(want, right))
			}
			if right != (len(h) < 200) || ok && (len(got) != len(h)+1 || !impl.HeapOk(got)) {
				t.Errorf("HeapPush(%v, %v) is %s", h, d, duesText(got, ok))
			}
			if ok {
				pushed++
			}
		}
	}
	if pushed < 4000 {
		t.Errorf("%d pushes: too few to tell", pushed)
	}
}

func TestHeapPushOfEveryShortList(t *testing.T) {
	pushed := 0
	for _, l := range shortLists(5, fewDues()) {
		for _, d := range append(fewDues(), due(1, 0), due(-1, 1)) {
			want, right := pushOf(l, d)
			if got, ok := impl.HeapPush(l, d); duesText(got, ok) != duesText(want, right) {
				t.Errorf("HeapPush(%v, %v) is %s, not %s", l, d, duesText(got, ok), duesText(want, right))
			}
			if right {
				pushed++
			}
		}
	}
	if pushed < 1000 {
		t.Errorf("%d pushes: too few to tell", pushed)
	}
}

func TestHeapPushByHand(t *testing.T) {
	for _, c := range []struct {
		l    []impl.Due
		d    impl.Due
		want []impl.Due
	}{
		{nil, due(5, 1), times(5)},
		{nil, due(0, 1), times(0)},
		{nil, due(impl.MaxTime, impl.MaxId), dues(1000000000, 999)},
		{times(5), due(6, 1), times(5, 6)},
		{times(5), due(4, 1), times(4, 5)},
		{times(5), due(5, 1), times(5, 5)},
		{dues(5, 2), due(5, 1), dues(5, 1, 5, 2)},
		{dues(5, 2), due(5, 3), dues(5, 2, 5, 3)},
		{times(5, 6), due(4, 1), times(4, 6, 5)},
		{times(5, 6), due(6, 1), times(5, 6, 6)},
		{times(1, 5, 3), due(4, 1), times(1, 4, 3, 5)},
		{times(1, 5, 3), due(5, 1), times(1, 5, 3, 5)},
		{times(1, 5, 3), due(0, 1), times(0, 1, 3, 5)},
		{times(1, 5, 3, 7), due(4, 1), times(1, 4, 3, 7, 5)},
		{times(1, 5, 3, 7, 6), due(2, 1), times(1, 5, 2, 7, 6, 3)},
		{times(1, 5, 3, 7, 6, 4), due(0, 1), times(0, 5, 1, 7, 6, 4, 3)},
		{times(1, 5, 3, 7, 6, 4, 4), due(4, 1), times(1, 4, 3, 5, 6, 4, 4, 7)},
		// It stays below those that are its like, however far up they lie.
		{times(4, 4, 4, 4), due(4, 1), times(4, 4, 4, 4, 4)},
		{dues(4, 2, 4, 2, 4, 2, 4, 2), due(4, 1), dues(4, 1, 4, 2, 4, 2, 4, 2, 4, 2)},
	} {
		if got, ok := impl.HeapPush(c.l, c.d); duesText(got, ok) != duesText(c.want, true) {
			t.Errorf("HeapPush(%v, %v) is %s, not %v", c.l, c.d, duesText(got, ok), c.want)
		}
	}
}

func TestHeapPushOfWrongArguments(t *testing.T) {
	nothing := duesText(nil, false)
	for name, l := range wrongHeaps() {
		for _, d := range append(edgeDues(), wrongDues()...) {
			if got := duesText(impl.HeapPush(l, d)); got != nothing {
				t.Errorf("%s: HeapPush of %v is %.80s", name, d, got)
			}
		}
	}
	for _, d := range wrongDues() {
		for _, n := range []int{0, 1, 2, 3, 100, 199, 200} {
			if got := duesText(impl.HeapPush(someDues(n), d)); got != nothing {
				t.Errorf("HeapPush of %v on %d is %.80s", d, n, got)
			}
		}
	}
	for _, d := range edgeDues() {
		if got := duesText(impl.HeapPush(someDues(200), d)); got != nothing {
			t.Errorf("HeapPush of %v on MaxHeap is %.80s", d, got)
		}
		if got, ok := impl.HeapPush(someDues(199), d); !ok || len(got) != 200 {
			t.Errorf("HeapPush of %v on one less than MaxHeap is %.80s", d, duesText(got, ok))
		}
	}
}

func TestHeapPop(t *testing.T) {
	popped := 0
	for _, h := range drawnHeaps(142) {
		d, rest, ok := impl.HeapPop(h)
		if want := popText(popOf(h)); popText(d, rest, ok) != want {
			t.Errorf("HeapPop(%v) is %s, not %s", h, popText(d, rest, ok), want)
		}
		if ok != (len(h) > 0) || ok && (d != h[0] || len(rest) != len(h)-1 || !impl.HeapOk(rest)) {
			t.Errorf("HeapPop(%v) is %s", h, popText(d, rest, ok))
		}
		if ok {
			popped++
		}
	}
	if popped < 1000 {
		t.Errorf("%d pops: too few to tell", popped)
	}
}

func TestHeapPopOfEveryShortList(t *testing.T) {
	popped := 0
	for _, l := range shortLists(7, fewDues()) {
		want, left, right := popOf(l)
		if d, rest, ok := impl.HeapPop(l); d != want || ok != right || !slices.Equal(rest, left) {
			t.Errorf("HeapPop(%v) is %s, not %s", l, popText(d, rest, ok), popText(want, left, right))
		}
		if right {
			popped++
		}
	}
	if popped < 1500 {
		t.Errorf("%d pops: too few to tell", popped)
	}
}

func TestHeapPopByHand(t *testing.T) {
	for _, c := range []struct {
		l     []impl.Due
		first impl.Due
		rest  []impl.Due
	}{
		{times(5), due(5, 1), nil},
		{dues(0, 1), due(0, 1), nil},
		{dues(1000000000, 999), due(1000000000, 999), nil},
		{times(5, 6), due(5, 1), times(6)},
		{times(5, 5), due(5, 1), times(5)},
		{times(1, 2, 3), due(1, 1), times(2, 3)},
		{times(1, 3, 2), due(1, 1), times(2, 3)},
		// One child: it comes ahead, or not, or is alike.
		{times(1, 2, 3, 4), due(1, 1), times(2, 4, 3)},
		{times(1, 2, 5, 4), due(1, 1), times(2, 4, 5)},
		{times(1, 5, 2), due(1, 1), times(2, 5)},
		{dues(1, 1, 2, 2, 2, 2), due(1, 1), dues(2, 2, 2, 2)},
		// Two children: the left one, or the right one comes first.
		{times(1, 2, 3, 4, 5), due(1, 1), times(2, 4, 3, 5)},
		{times(1, 3, 2, 4, 5), due(1, 1), times(2, 3, 5, 4)},
		{dues(1, 1, 2, 3, 2, 2, 4, 1, 5, 1), due(1, 1), dues(2, 2, 2, 3, 5, 1, 4, 1)},
		// Two children that are alike: it is the one at 2 i + 1.
		{times(1, 2, 2, 4, 5), due(1, 1), times(2, 4, 2, 5)},
		{times(1, 2, 2, 4, 5, 6), due(1, 1), times(2, 4, 2, 6, 5)},
		{times(1, 2, 2, 5, 5, 3, 6), due(1, 1), times(2, 5, 2, 6, 5, 3)},
		// Two that are alike with the last one: none comes ahead of it.
		{times(1, 2, 2, 2), due(1, 1), times(2, 2, 2)},
		{dues(1, 1, 2, 1, 2, 1, 2, 1, 2, 1), due(1, 1), dues(2, 1, 2, 1, 2, 1, 2, 1)},
		// All the way down, and only half of it.
		{times(1, 2, 9, 3, 8, 9, 9, 4, 7), due(1, 1), times(2, 3, 9, 4, 8, 9, 9, 7)},
		{times(1, 2, 3, 9, 9, 4, 9, 9, 9, 9, 9, 5), due(1, 1), times(2, 5, 3, 9, 9, 4, 9, 9, 9, 9, 9)},
		{times(1, 3, 2, 9, 9, 4, 9, 9, 9, 9, 9, 5), due(1, 1), times(2, 3, 4, 9, 9, 5, 9, 9, 9, 9, 9)},
	} {
		if d, rest, ok := impl.HeapPop(c.l); popText(d, rest, ok) != popText(c.first, c.rest, true) {
			t.Errorf("HeapPop(%v) is %s, not %s", c.l, popText(d, rest, ok), popText(c.first, c.rest, true))
		}
	}
}

func TestHeapPopOfWrongLists(t *testing.T) {
	nothing := popText(impl.Due{}, nil, false)
	for _, l := range [][]impl.Due{nil, {}, someDues(5)[:0]} {
		if got := popText(impl.HeapPop(l)); got != nothing {
			t.Errorf("HeapPop of none is %s", got)
		}
	}
	for name, l := range wrongHeaps() {
		if got := popText(impl.HeapPop(l)); got != nothing {
			t.Errorf("%s: HeapPop is %.80s", name, got)
		}
	}
}

func TestHeapOf(t *testing.T) {
	for _, l := range append(drawnLists(143), shortLists(6, fewDues())...) {
		want, _ := heapOf(l)
		got, ok := impl.HeapOf(l)
		if !ok || !slices.Equal(got, want) || !impl.HeapOk(got) {
			t.Errorf("HeapOf(%v) is %s, not %v", l, duesText(got, ok), want)
		}
		var h []impl.Due
		for _, d := range l {
			h, _ = impl.HeapPush(h, d)
		}
		if !slices.Equal(got, h) {
			t.Errorf("HeapOf(%v) is %v, one push after the other is %v", l, got, h)
		}
	}
}

func TestHeapOfByHand(t *testing.T) {
	for _, c := range []struct{ l, want []impl.Due }{
		{nil, nil},
		{[]impl.Due{}, nil},
		{times(5), times(5)},
		{times(2, 1), times(1, 2)},
		{times(1, 2), times(1, 2)},
		{times(3, 2, 1), times(1, 3, 2)},
		{times(5, 4, 3, 2, 1), times(1, 2, 4, 5, 3)},
		{times(1, 2, 3, 4, 5), times(1, 2, 3, 4, 5)},
		{dues(3, 2, 3, 1, 1, 9), dues(1, 9, 3, 2, 3, 1)},
		{times(7, 7, 7), times(7, 7, 7)},
	} {
		if got, ok := impl.HeapOf(c.l); duesText(got, ok) != duesText(c.want, true) {
			t.Errorf("HeapOf(%v) is %s, not %v", c.l, duesText(got, ok), c.want)
		}
	}
}

func TestHeapOfWrongLists(t *testing.T) {
	nothing := duesText(nil, false)
	for _, d := range wrongDues() {
		for _, n := range []int{0, 1, 2, 100, 199} {
			for _, i := range []int{0, n / 2, n} {
				l := slices.Insert(someDues(n), i, d)
				if got := duesText(impl.HeapOf(l)); got != nothing {
					t.Errorf("HeapOf of %d with %v at place %d is %.80s", n, d, i, got)
				}
			}
		}
	}
	for _, n := range []int{199, 200, 201, 202, 400, 100000} {
		l := someDues(n)
		slices.Reverse(l)
		if got, ok := impl.HeapOf(l); ok != (n <= 200) || ok && len(got) != n || !ok && len(got) > 0 {
			t.Errorf("HeapOf of %d is %.80s", n, duesText(got, ok))
		}
	}
}

// A heap tells what was put into it, in order.
func TestHeapTellsWhatWasPutIntoIt(t *testing.T) {
	for _, l := range append(drawnLists(144), shortLists(6, fewDues())...) {
		h, ok := impl.HeapOf(l)
		all := impl.HeapAll(h)
		if !ok || !slices.Equal(all, plainlySorted(l)) {
			t.Errorf("of %v HeapAll is %v", l, all)
		}
		often, told := map[impl.Due]int{}, map[impl.Due]int{}
		for _, d := range l {
			often[d]++
		}
		for i, d := range all {
			told[d]++
			if i > 0 && impl.DueFirst(d, all[i-1]) {
				t.Errorf("of %v HeapAll has %v behind %v", l, d, all[i-1])
			}
		}
		if !reflect.DeepEqual(often, told) {
			t.Errorf("of %v HeapAll is %v", l, all)
		}
	}
}

func TestHeapAll(t *testing.T) {
	for _, h := range drawnHeaps(145) {
		all := impl.HeapAll(h)
		var popped []impl.Due
		for d, rest, ok := impl.HeapPop(h); ok; d, rest, ok = impl.HeapPop(rest) {
			popped = append(popped, d)
		}
		if !slices.Equal(all, popped) || !slices.Equal(all, heapAllOf(h)) {
			t.Errorf("HeapAll(%v) is %v, one pop after the other is %v", h, all, popped)
		}
	}
	told := 0
	for _, l := range shortLists(6, fewDues()) {
		want := heapAllOf(l)
		if got := impl.HeapAll(l); !slices.Equal(got, want) {
			t.Errorf("HeapAll(%v) is %v, not %v", l, got, want)
		}
		told += len(want)
	}
	if told < 3000 {
		t.Errorf("%d Dues: too few to tell", told)
	}
	for name, l := range wrongHeaps() {
		if got := impl.HeapAll(l); len(got) > 0 {
			t.Errorf("%s: HeapAll has %d", name, len(got))
		}
	}
}

func TestHeapAllByHand(t *testing.T) {
	for _, c := range []struct{ l, want []impl.Due }{
		{nil, nil},
		{[]impl.Due{}, nil},
		{times(5), times(5)},
		{times(1, 3, 2), times(1, 2, 3)},
		{dues(1, 2, 3, 1, 1, 3), dues(1, 2, 1, 3, 3, 1)},
		{times(4, 4, 4), times(4, 4, 4)},
		{times(3, 2), nil},
		{times(-1), nil},
		{someDues(200), someDues(200)},
		{someDues(201), nil},
	} {
		if got := impl.HeapAll(c.l); !slices.Equal(got, c.want) {
			t.Errorf("HeapAll(%v) is %v, not %v", c.l, got, c.want)
		}
	}
}

// Pushes and pops in any order, held against a list that is kept sorted plainly.
func TestPushesAndPopsInAnyOrder(t *testing.T) {
	draw := rand.New(rand.NewSource(146))
	pushes, pops, full, empty := 0, 0, 0, 0
	for play := range 60 {
		var h, sorted []impl.Due
		l := drawnDues(draw, 900)
		for step, d := range l {
			// First mostly pushes, then mostly pops, so that the heap is full and empty at times.
			if draw.Intn(10) < []int{9, 5, 1}[step*3/len(l)] {
				more, ok := impl.HeapPush(h, d)
				if ok != (len(h) < impl.MaxHeap) {
					t.Fatalf("play %d: HeapPush of %v on %d is %v", play, d, len(h), ok)
				}
				if !ok {
					full++
					continue
				}
				h, sorted = more, plainlySorted(append(sorted, d))
				pushes++
			} else {
				first, rest, ok := impl.HeapPop(h)
				if ok != (len(h) > 0) || ok && first != sorted[0] {
					t.Fatalf("play %d: HeapPop of %v is %v, %v, not the first of %v", play, h, first, ok, sorted)
				}
				if !ok {
					empty++
					continue
				}
				h, sorted = rest, sorted[1:]
				pops++
			}
			if !impl.HeapOk(h) || len(h) != len(sorted) {
				t.Fatalf("play %d: %v is left of %v", play, h, sorted)
			}
		}
		if !slices.Equal(impl.HeapAll(h), sorted) {
			t.Errorf("play %d: HeapAll is %v, not %v", play, impl.HeapAll(h), sorted)
		}
	}
	if pushes < 10000 || pops < 10000 || full < 500 || empty < 500 {
		t.Errorf("%d pushes, %d pops, %d at a full heap, %d at an empty one: too few to tell", pushes, pops, full, empty)
	}
}

func TestDuesOf(t *testing.T) {
	none, one, several, same := 0, 0, 0, 0
	for _, seed := range []int64{147, 148} {
		for _, s := range drawnStates(seed) {
			want := duesOf(s)
			got := impl.DuesOf(s)
			if !slices.Equal(got, want) {
				t.Errorf("DuesOf(%s) is %v, not %v", stateText(s), got, want)
			}
			h, ok := impl.HeapOf(got)
			first, rest, some := impl.HeapPop(h)
			if next := impl.NextEnd(s); !ok || some != (len(s.Runs) > 0) || some && first.At != next || !some && next != -1 {
				t.Errorf("the first end of %s is %v, %v, NextEnd is %d", stateText(s), first, some, next)
			}
			switch second, _, more := impl.HeapPop(rest); {
			case !some:
				none++
			case !more:
				one++
			default:
				several++
				if second.At == first.At {
					same++
				}
			}
		}
	}
	if none < 20 || one < 20 || several < 100 || same < 20 {
		t.Errorf("%d states with no run, %d with one, %d with several, %d of them with two first ends at once: too few to tell", none, one, several, same)
	}
}

func TestDuesOfByHand(t *testing.T) {
	full := fullState(60)
	var all []impl.Due
	for _, run := range full.Runs {
		all = append(all, due(run.At+run.Job.Wall, run.Job.Id))
	}
	late := stateAt(impl.MaxTime-1, runOf(planJob(999, 0, 1, 10, 0), impl.MaxTime-10, 0))
	early := stateAt(5, runOf(planJob(1, 0, 1, 10, 0), -4, 0))
	turned := busy()
	slices.Reverse(turned.Runs)
	equal := stateAt(5, runOf(planJob(9, 0, 1, 6, 0), 4, 0), runOf(planJob(2, 0, 1, 5, 0), 5, 1), runOf(planJob(5, 0, 1, 10, 0), 0, 2))
	for _, c := range []struct {
		name string
		s    impl.State
		want []impl.Due
	}{
		{"nothing runs", stateAt(5), nil},
		{"nothing runs, some wait", waiting(5, []impl.Job{planJob(1, 0, 9, 5, 0)}), nil},
		{"no state", impl.State{}, nil},
		{"one runs", stateAt(0, runOf(planJob(7, 3, 1, 10, 0), 0, 0)), dues(10, 7)},
		{"two run", busy(), dues(10, 1, 25, 2)},
		{"two run, the other way round", turned, dues(25, 2, 10, 1)},
		{"three end at once", equal, dues(10, 9, 10, 2, 10, 5)},
		{"up to MaxTime", late, dues(1000000000, 999)},
		{"from ahead of 0 on", early, dues(6, 1)},
		{"60 jobs", full, all},
		{"61 jobs", fullState(61), nil},
	} {
		if got := impl.DuesOf(c.s); !slices.Equal(got, c.want) {
			t.Errorf("%s: DuesOf is %v, not %v", c.name, got, c.want)
		}
	}
	h, _ := impl.HeapOf(impl.DuesOf(equal))
	if got := impl.HeapAll(h); !slices.Equal(got, dues(10, 2, 10, 5, 10, 9)) {
		t.Errorf("three end at once: HeapAll is %v", got)
	}
}

func TestDuesOfWrongStates(t *testing.T) {
	for name, s := range wrongStates() {
		if got := impl.DuesOf(s); len(got) > 0 {
			t.Errorf("%s: DuesOf is %v", name, got)
		}
	}
	draw := rand.New(rand.NewSource(149))
	wrong := 0
	for _, s := range drawnStates(150) {
		q := changedState(draw, s)
		want := duesOf(q)
		if got := impl.DuesOf(q); !slices.Equal(got, want) {
			t.Errorf("DuesOf(%s) is %v, not %v", stateText(q), got, want)
		}
		if !stateRight(q) && len(q.Runs) > 0 {
			wrong++
		}
	}
	if wrong < 50 {
		t.Errorf("%d wrong states with runs: too few to tell", wrong)
	}
}

func TestNoCallOfTheHeapPanics(t *testing.T) {
	draw := rand.New(rand.NewSource(151))
	odd := [][]impl.Due{nil, {}, {{}}, make([]impl.Due, 201), someDues(200), someDues(201)}
	all := append(edgeDues(), wrongDues()...)
	for range 2000 {
		l := make([]impl.Due, draw.Intn(9))
		for i := range l {
			l[i] = all[draw.Intn(len(all))]
		}
		odd = append(odd, l)
	}
	for _, l := range odd {
		d := all[draw.Intn(len(all))]
		for name, call := range map[string]func(){
			"DueFirst": func() { impl.DueFirst(d, all[draw.Intn(len(all))]) },
			"HeapOk":   func() { impl.HeapOk(l) },
			"HeapPush": func() { impl.HeapPush(l, d) },
			"HeapPop":  func() { impl.HeapPop(l) },
			"HeapOf":   func() { impl.HeapOf(l) },
			"HeapAll":  func() { impl.HeapAll(l) },
		} {
			if panics(call) {
				t.Errorf("%s panics at %v, %v", name, l, d)
			}
		}
	}
	for _, s := range oddStates() {
		if panics(func() { impl.DuesOf(s) }) {
			t.Errorf("DuesOf panics at %+v", s)
		}
	}
}

// heapAnswers has the lists that are worked out of l.
func heapAnswers(l []impl.Due) [][]impl.Due {
	var answers [][]impl.Due
	for _, d := range dues(0, 1, 7, 3, 1000000000, 999) {
		more, _ := impl.HeapPush(l, d)
		answers = append(answers, more)
	}
	_, rest, _ := impl.HeapPop(l)
	made, _ := impl.HeapOf(l)
	return append(answers, rest, made, impl.HeapAll(l))
}

func heapsToShare() [][]impl.Due {
	l := append(shortLists(4, fewDues()), drawnLists(152)...)
	return append(append(l, drawnHeaps(152)...), someDues(199), someDues(200), someDues(201))
}

func TestHeapsAreLeftAlone(t *testing.T) {
	for _, l := range heapsToShare() {
		h := withRoomBehind(l, due(-3, -3))
		kept := slices.Clone(h[:cap(h)])
		for _, answer := range heapAnswers(h) {
			writeOver(answer, due(-7, -7))
		}
		impl.HeapOk(h)
		if !slices.Equal(h[:cap(h)], kept) {
			t.Errorf("%v has become %v", kept, h[:cap(h)])
		}
	}
	for _, state := range statesToShare() {
		s := sharedState(state)
		kept := stateCopy(wholeState(s))
		writeOver(impl.DuesOf(s), due(-7, -7))
		if !reflect.DeepEqual(wholeState(s), kept) {
			t.Errorf("%+v has become %+v", kept, wholeState(s))
		}
	}
}

func TestHeapAnswersAreKeptByNobody(t *testing.T) {
	for _, l := range heapsToShare() {
		once, again := heapAnswers(l), heapAnswers(l)
		for _, answer := range once {
			writeOver(answer, due(-7, -7))
		}
		if !slices.EqualFunc(again, heapAnswers(l), slices.Equal) {
			t.Errorf("the answers of %v have changed", l)
		}
	}
	for _, s := range statesToShare() {
		once, again := impl.DuesOf(s), impl.DuesOf(s)
		writeOver(once, due(-7, -7))
		if !slices.Equal(again, duesOf(s)) || !slices.Equal(impl.DuesOf(s), again) {
			t.Errorf("DuesOf(%s) is %v", stateText(s), again)
		}
	}
}
