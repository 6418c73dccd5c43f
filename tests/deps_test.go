package tests

import (
	"fmt"
	"math"
	"math/rand"
	"reflect"
	"slices"
	"testing"

	"loop.example/g00454/impl"
)

func depRight(d impl.Dep) bool {
	return d.Id >= 1 && d.Id <= 999 && d.For >= 1 && d.For <= 999 && d.Id != d.For
}

// depsRight holds each dep against all those behind it, where the program holds it against the one ahead of it.
func depsRight(l []impl.Dep) bool {
	if len(l) > 100 {
		return false
	}
	for i, a := range l {
		if !depRight(a) {
			return false
		}
		for _, b := range l[i+1:] {
			if a.Id > b.Id || a.Id == b.Id && a.For >= b.For {
				return false
			}
		}
	}
	return true
}

// reached has all jobs that id waits for, over one step or more, where each wait is for one of among (nil: whoever it is).
func reached(l []impl.Dep, id int, among []int) []int {
	var found []int
	for from := []int{id}; len(from) > 0; from = from[1:] {
		for _, d := range l {
			if d.Id == from[0] && !slices.Contains(found, d.For) && (among == nil || slices.Contains(among, d.For)) {
				found = append(found, d.For)
				from = append(from, d.For)
			}
		}
	}
	return found
}

func roundOf(l []impl.Dep) bool {
	round := false
	for _, d := range l {
		round = round || slices.Contains(reached(l, d.Id, nil), d.Id)
	}
	return depsRight(l) && round
}

func depsAddOf(l []impl.Dep, d impl.Dep) ([]impl.Dep, int) {
	var added []impl.Dep
	for _, other := range l {
		if other.Id < d.Id || other.Id == d.Id && other.For < d.For {
			added = append(added, other)
		}
	}
	added = append(added, d)
	added = append(added, l[len(added)-1:]...)
	switch {
	case !depsRight(l) || !depsRight([]impl.Dep{d}):
		return nil, 1
	case slices.Contains(l, d):
		return nil, 2
	case len(l) == 100:
		return nil, 3
	case roundOf(added):
		return nil, 4
	}
	return added, 0
}

func freeOf(l []impl.Dep, id int, done []int) bool {
	held := 0
	for _, d := range l {
		if d.Id == id && slices.Index(done, d.For) < 0 {
			held++
		}
	}
	return depsRight(l) && held == 0
}

func depsDoneOf(l []impl.Dep, id int) []impl.Dep {
	if !depsRight(l) {
		return nil
	}
	var left []impl.Dep
	for _, d := range l {
		if d.For != id {
			left = append(left, d)
		}
	}
	return left
}

func idsRight(ids []int) bool {
	if len(ids) > 999 {
		return false
	}
	seen := make(map[int]int)
	for _, id := range ids {
		seen[id]++
		if id < 1 || id > 999 || seen[id] > 1 {
			return false
		}
	}
	return true
}

// wavesOf finds for each job the number of its wave, one behind the last of those that it waits for; the program makes a wave of those that wait for none that is left.
func wavesOf(l []impl.Dep, ids []int) ([][]int, bool) {
	if !depsRight(l) || !idsRight(ids) {
		return nil, false
	}
	place := make(map[int]int)
	for _, id := range ids {
		place[id] = 0
	}
	for changed := true; changed; {
		changed = false
		for _, d := range l {
			own, isOne := place[d.Id]
			other, isOther := place[d.For]
			if !isOne || !isOther || own > other {
				continue
			}
			if other == len(ids) {
				return nil, false
			}
			place[d.Id], changed = other+1, true
		}
	}
	var waves [][]int
	for _, id := range ids {
		for len(waves) <= place[id] {
			waves = append(waves, nil)
		}
		waves[place[id]] = append(waves[place[id]], id)
	}
	return waves, true
}

func dep(id, other int) impl.Dep { return impl.Dep{Id: id, For: other} }

// deps has these as they stand, each as its Id and its For.
func deps(l ...int) []impl.Dep {
	var all []impl.Dep
	for i := 0; i < len(l); i += 2 {
		all = append(all, dep(l[i], l[i+1]))
	}
	return all
}

// tidied has the same deps, rising and none twice.
func tidied(l []impl.Dep) []impl.Dep {
	l = slices.Clone(l)
	slices.SortFunc(l, func(a, b impl.Dep) int { return (a.Id-b.Id)*1000 + a.For - b.For })
	return slices.Compact(l)
}

// chainOf lets each of these jobs wait for the next one.
func chainOf(ids ...int) []impl.Dep {
	var l []impl.Dep
	for i := 1; i < len(ids); i++ {
		l = append(l, dep(ids[i-1], ids[i]))
	}
	return tidied(l)
}

func roundAbout(ids ...int) []impl.Dep {
	return chainOf(append(slices.Clone(ids), ids[0])...)
}

// fromTo has the numbers from the first to the last.
func fromTo(first, last int) []int {
	var l []int
	for n := first; n <= last; n++ {
		l = append(l, n)
	}
	return l
}

// fallingTo has the numbers from the first down to the last.
func fallingTo(first, last int) []int {
	l := fromTo(last, first)
	slices.Reverse(l)
	return l
}

// waitForMany lets the job wait for each of the others.
func waitForMany(id int, others ...int) []impl.Dep {
	var l []impl.Dep
	for _, other := range others {
		l = append(l, dep(id, other))
	}
	return tidied(l)
}

// manyWaitFor lets each of the others wait for the job.
func manyWaitFor(id int, others ...int) []impl.Dep {
	var l []impl.Dep
	for _, other := range others {
		l = append(l, dep(other, id))
	}
	return tidied(l)
}

func joined(lists ...[]impl.Dep) []impl.Dep {
	return tidied(slices.Concat(lists...))
}

// drawnIds has n different ids, near one another, from all there are, or with the least and the greatest one.
func drawnIds(draw *rand.Rand, n int) []int {
	most := 999
	if draw.Intn(2) == 0 {
		most = n + draw.Intn(4)
	}
	var ids []int
	for _, i := range draw.Perm(most)[:n] {
		ids = append(ids, i+1)
	}
	if draw.Intn(3) == 0 && n > 1 && !slices.Contains(ids, 1) && !slices.Contains(ids, 999) {
		ids[0], ids[n-1] = 1, 999
	}
	return ids
}

// drawnWaits has n waits of these jobs or fewer; without rounds each waits only for those behind it.
func drawnWaits(draw *rand.Rand, ids []int, n int, rounds bool) []impl.Dep {
	var l []impl.Dep
	for range n {
		a, b := draw.Intn(len(ids)), draw.Intn(len(ids))
		if a > b && !rounds {
			a, b = b, a
		}
		if a != b {
			l = append(l, dep(ids[a], ids[b]))
		}
	}
	return tidied(l)
}

const depKinds = 16

// drawnDepsOf has right deps of one of several kinds.
func drawnDepsOf(draw *rand.Rand, kind int) []impl.Dep {
	n := 2 + draw.Intn(12)
	ids := drawnIds(draw, n)
	switch kind {
	case 0:
		return nil
	case 1:
		return chainOf(ids[:2]...)
	case 2:
		return chainOf(ids...)
	case 3:
		return joined(waitForMany(ids[0], ids[1:]...), manyWaitFor(ids[n-1], ids[1:n-1]...))
	case 4:
		return manyWaitFor(ids[0], ids[1:]...)
	case 5:
		return waitForMany(ids[0], ids[1:]...)
	case 6:
		return roundAbout(ids[:2]...)
	case 7:
		return joined(roundAbout(ids[:min(3, n)]...), drawnWaits(draw, ids, n, false))
	case 8:
		return joined(roundAbout(ids...), drawnWaits(draw, ids, 3, true))
	case 9:
		return drawnWaits(draw, ids, n, true)
	case 10:
		return drawnWaits(draw, ids, 3*n, false)
	case 11:
		return drawnWaits(draw, ids, n/2, true)
	case 12:
		return fullOfDeps(draw, false)
	case 13:
		return fullOfDeps(draw, true)
	case 14:
		return joined(chainOf(ids[:n/2]...), chainOf(ids[n/2:]...))
	}
	return chainOf(drawnIds(draw, 101)...)
}

// fullOfDeps has just MaxDeps.
func fullOfDeps(draw *rand.Rand, rounds bool) []impl.Dep {
	ids := drawnIds(draw, 16+draw.Intn(150))
	var l []impl.Dep
	for len(l) < 100 {
		l = joined(l, drawnWaits(draw, ids, 100-len(l), rounds))
	}
	return l
}

// drawnDeps has many lists of right deps, of each kind as many.
func drawnDeps(seed int64) [][]impl.Dep {
	var all [][]impl.Dep
	draw := rand.New(rand.NewSource(seed))
	for range 150 {
		for kind := range depKinds {
			all = append(all, drawnDepsOf(draw, kind))
		}
	}
	return all
}

// jobsIn has all jobs of the deps, each once.
func jobsIn(l []impl.Dep) []int {
	var ids []int
	for _, d := range l {
		ids = append(ids, d.Id, d.For)
	}
	slices.Sort(ids)
	return slices.Compact(ids)
}

// someOfThem has jobs of the deps in any order, all of them or some, and some that are in none.
func someOfThem(draw *rand.Rand, l []impl.Dep) []int {
	ids := jobsIn(l)
	draw.Shuffle(len(ids), func(i, k int) { ids[i], ids[k] = ids[k], ids[i] })
	switch draw.Intn(3) {
	case 0:
		ids = ids[:draw.Intn(len(ids)+1)]
	case 1:
		ids = ids[draw.Intn(min(len(ids), 2)+1):]
	}
	for range draw.Intn(4) {
		if other := 1 + draw.Intn(999); !slices.Contains(ids, other) {
			ids = slices.Insert(ids, draw.Intn(len(ids)+1), other)
		}
	}
	return ids
}

// everyDeps has all lists of deps of the jobs from 1 to n.
func everyDeps(n int) [][]impl.Dep {
	all := [][]impl.Dep{nil}
	for _, id := range fromTo(1, n) {
		for _, other := range fromTo(1, n) {
			if id == other {
				continue
			}
			for _, l := range all {
				all = append(all, append(slices.Clone(l), dep(id, other)))
			}
		}
	}
	return all
}

// everyIds has all lists of different ones of the jobs from 1 to n, in every order.
func everyIds(n int) [][]int {
	all := [][]int{nil}
	for i := 0; i < len(all); i++ {
		for _, id := range fromTo(1, n) {
			if !slices.Contains(all[i], id) {
				all = append(all, append(slices.Clone(all[i]), id))
			}
		}
	}
	return all
}

// edgeNumbers has numbers at the edges of ids, and far beyond.
var edgeNumbers = []int{
	math.MinInt, math.MinInt + 1, -1000000000, -1000, -999, -1, 0, 1, 2, 998, 999, 1000, 1001, 1998, 1000000000, math.MaxInt - 1, math.MaxInt,
}

// fullDeps has MaxDeps of them, a chain from 101 down to 1.
func fullDeps() []impl.Dep { return chainOf(fallingTo(101, 1)...) }

// changedDeps has one number that is another one, two deps that have changed places, one twice, one more or one less.
func changedDeps(draw *rand.Rand, l []impl.Dep) []impl.Dep {
	l = slices.Clone(l)
	if len(l) == 0 {
		return append(l, dep(edgeNumbers[draw.Intn(len(edgeNumbers))], 1+draw.Intn(3)))
	}
	i, k := draw.Intn(len(l)), draw.Intn(len(l))
	switch draw.Intn(8) {
	case 0:
		l[i].Id = edgeNumbers[draw.Intn(len(edgeNumbers))]
	case 1:
		l[i].For = edgeNumbers[draw.Intn(len(edgeNumbers))]
	case 2:
		l[i].For = l[i].Id
	case 3:
		l[i], l[k] = l[k], l[i]
	case 4:
		l = slices.Insert(l, i, l[i])
	case 5:
		l = slices.Delete(l, i, i+1)
	case 6:
		l[i].Id, l[i].For = l[i].For, l[i].Id
	case 7:
		l = append(l, dep(1+draw.Intn(999), 1+draw.Intn(999)))
	}
	return l
}

// wrongDeps has lists of deps that are not right, each for one cause.
func wrongDeps() map[string][]impl.Dep {
	full := fullDeps()
	equalAtEnd, fallingAtEnd := slices.Clone(full), slices.Clone(full)
	equalAtEnd[99] = equalAtEnd[98]
	fallingAtEnd[98], fallingAtEnd[99] = full[99], full[98]
	l := map[string][]impl.Dep{
		"one more than MaxDeps":           chainOf(fallingTo(102, 1)...),
		"two more than MaxDeps":           chainOf(fallingTo(103, 1)...),
		"as many as there are ids":        chainOf(fallingTo(999, 1)...),
		"very many":                       slices.Repeat(full, 10000),
		"very many of nothing":            make([]impl.Dep, 100000),
		"nothing":                         {{}},
		"two of nothing":                  {{}, {}},
		"only an Id":                      {{Id: 1}},
		"only a For":                      {{For: 1}},
		"two equal ones":                  deps(2, 1, 2, 1),
		"equal at the beginning":          deps(2, 1, 2, 1, 3, 1),
		"equal at the end":                deps(2, 1, 3, 1, 3, 1),
		"equal at the end of MaxDeps":     equalAtEnd,
		"equal apart":                     deps(2, 1, 3, 1, 2, 1),
		"Ids that fall":                   deps(3, 1, 2, 1),
		"Ids that fall, Fors that rise":   deps(3, 1, 2, 4),
		"Ids that fall at the end":        deps(2, 1, 4, 1, 3, 1),
		"Ids that fall at the beginning":  deps(3, 1, 2, 1, 4, 1),
		"Ids that fall behind MaxDeps":    fallingAtEnd,
		"Fors that fall":                  deps(3, 2, 3, 1),
		"Fors that fall at the end":       deps(2, 1, 3, 2, 3, 1),
		"Fors that fall at the beginning": deps(3, 2, 3, 1, 4, 1),
		"one that waits for itself":       deps(1, 1),
		"999 that waits for itself":       deps(999, 999),
		"rising by For and then by Id":    deps(2, 1, 3, 1, 1, 2),
		"a round that falls":              deps(2, 1, 1, 2),
	}
	for _, n := range edgeNumbers {
		if n >= 1 && n <= 999 {
			continue
		}
		l[fmt.Sprint("alone with the Id ", n)] = deps(n, 5)
		l[fmt.Sprint("alone with the For ", n)] = deps(5, n)
		l[fmt.Sprint("with itself, ", n)] = deps(n, n)
		l[fmt.Sprint("the Id ", n, " at its place")] = joined(deps(3, 2, 5, 2), deps(n, 2))
		l[fmt.Sprint("the For ", n, " at the first place")] = deps(3, n, 5, 2)
		l[fmt.Sprint("the For ", n, " at the last place")] = deps(3, 2, 5, n)
		l[fmt.Sprint("the For ", n, " at its place")] = joined(deps(3, 1, 3, 2), deps(3, n))
		for _, i := range []int{0, 50, 99} {
			id, other := slices.Clone(full), slices.Clone(full)
			id[i].Id, other[i].For = n, n
			l[fmt.Sprint("the Id ", n, " at the place ", i)] = id
			l[fmt.Sprint("the For ", n, " at the place ", i)] = other
		}
	}
	for _, i := range []int{0, 50, 99} {
		itself := slices.Clone(full)
		itself[i].For = itself[i].Id
		l[fmt.Sprint("one that waits for itself at the place ", i)] = itself
	}
	return l
}

// edgeDeps has right deps at the edges, and whether they go round.
func edgeDeps() map[string]struct {
	l     []impl.Dep
	round bool
} {
	type edge = struct {
		l     []impl.Dep
		round bool
	}
	return map[string]edge{
		"nil":                              {nil, false},
		"none":                             {[]impl.Dep{}, false},
		"one":                              {deps(2, 1), false},
		"one that waits for a greater one": {deps(1, 2), false},
		"the least for the greatest":       {deps(1, 999), false},
		"the greatest for the least":       {deps(999, 1), false},
		"two of the greatest":              {deps(998, 999), false},
		"a round of two":                   {deps(1, 2, 2, 1), true},
		"a round of the edges":             {deps(1, 999, 999, 1), true},
		"a round of three":                 {deps(1, 2, 2, 3, 3, 1), true},
		"a round of three the other way":   {deps(1, 3, 2, 1, 3, 2), true},
		"a round of four":                  {roundAbout(7, 3, 999, 5), true},
		"a round behind a chain":           {joined(chainOf(1, 2, 3, 4), roundAbout(4, 5, 6)), true},
		"a round that leads to a chain":    {joined(chainOf(6, 1, 2, 3), roundAbout(4, 5, 6)), true},
		"a round beside a chain":           {joined(chainOf(1, 2, 3), roundAbout(4, 5)), true},
		"a round beside, behind":           {joined(chainOf(11, 12, 13), roundAbout(4, 5)), true},
		"two rounds":                       {joined(roundAbout(1, 2), roundAbout(3, 4)), true},
		"two rounds over one job":          {joined(roundAbout(1, 2), roundAbout(1, 3)), true},
		"a diamond":                        {deps(1, 2, 1, 3, 2, 4, 3, 4), false},
		"a diamond the other way":          {deps(2, 1, 3, 1, 4, 2, 4, 3), false},
		"a diamond with a way across":      {deps(1, 2, 1, 3, 1, 4, 2, 3, 2, 4, 3, 4), false},
		"a diamond with a way back":        {deps(1, 2, 1, 3, 2, 4, 3, 4, 4, 1), true},
		"diamonds in a row":                {deps(1, 2, 1, 3, 2, 4, 3, 4, 4, 5, 4, 6, 5, 7, 6, 7), false},
		"many that wait for one":           {manyWaitFor(500, fromTo(1, 100)...), false},
		"one that waits for many":          {waitForMany(500, fromTo(1, 100)...), false},
		"all of 14 for all those below":    {everyPair(14), false},
		"many rounds of two":               {joined(waitForMany(500, fromTo(1, 50)...), manyWaitFor(500, fromTo(1, 50)...)), true},
		"one less than MaxDeps":            {chainOf(fallingTo(100, 1)...), false},
		"MaxDeps, a chain that falls":      {fullDeps(), false},
		"MaxDeps, a chain that rises":      {chainOf(fromTo(1, 101)...), false},
		"MaxDeps, a round":                 {roundAbout(fromTo(1, 100)...), true},
		"MaxDeps, a round at the end":      {joined(chainOf(fromTo(1, 99)...), deps(99, 98, 99, 97)), true},
		"MaxDeps, a round of the last":     {joined(chainOf(fromTo(1, 99)...), roundAbout(998, 999)), true},
		"MaxDeps, a round of the first":    {joined(chainOf(fromTo(3, 101)...), roundAbout(1, 2)), true},
		"MaxDeps, pairs":                   {pairsApart(100), false},
		"MaxDeps, each for the next two":   {eachForTheNextTwo(fromTo(1, 51)), false},
		"MaxDeps, for the two below":       {eachForTheNextTwo(fallingTo(51, 1)), false},
		"very many ways, and a round":      {joined(eachForTheNextTwo(fromTo(1, 50)), roundAbout(49, 50)), true},
	}
}

// everyPair lets each of the jobs from 1 to n wait for all the lesser ones.
func everyPair(n int) []impl.Dep {
	var l []impl.Dep
	for _, id := range fromTo(1, n) {
		l = append(l, waitForMany(id, fromTo(1, id-1)...)...)
	}
	return l
}

// pairsApart has n deps, no two of them with one job.
func pairsApart(n int) []impl.Dep {
	var l []impl.Dep
	for i := range n {
		l = append(l, dep(1+i, 999-i))
	}
	return l
}

// eachForTheNextTwo has so many ways from the first job to the last that nobody can go them all.
func eachForTheNextTwo(ids []int) []impl.Dep {
	l := chainOf(ids...)
	for i := 2; i < len(ids); i++ {
		l = append(l, dep(ids[i-2], ids[i]))
	}
	return tidied(append(l, dep(999, ids[0])))
}

func depsText(l []impl.Dep, code int) string { return fmt.Sprintf("%d %d %v", code, len(l), l) }

// wavesText tells of no lists what it tells of nil.
func wavesText(waves [][]int, ok bool) string { return fmt.Sprintf("%v %d %v", ok, len(waves), waves) }

func TestDepsLimit(t *testing.T) {
	if impl.MaxDeps != 100 {
		t.Errorf("MaxDeps is %d", impl.MaxDeps)
	}
}

func TestDepsOk(t *testing.T) {
	for name, c := range edgeDeps() {
		if !impl.DepsOk(c.l) {
			t.Errorf("%s: not right", name)
		}
	}
	for name, l := range wrongDeps() {
		if impl.DepsOk(l) {
			t.Errorf("%s: right", name)
		}
	}
	draw := rand.New(rand.NewSource(171))
	right, wrong := 0, 0
	for _, l := range drawnDeps(172) {
		if !impl.DepsOk(l) {
			t.Errorf("%v is not right", l)
		}
		q := changedDeps(draw, l)
		if impl.DepsOk(q) != depsRight(q) {
			t.Errorf("DepsOk(%v) is %v", q, impl.DepsOk(q))
		}
		if depsRight(q) {
			right++
		} else {
			wrong++
		}
	}
	if right < 300 || wrong < 300 {
		t.Errorf("%d changed lists are right, %d wrong: too few to tell", right, wrong)
	}
}

// Every two of some numbers, alone, and every two of these deps behind one another.
func TestDepsOkOfOneAndOfTwo(t *testing.T) {
	for _, id := range edgeNumbers {
		for _, other := range edgeNumbers {
			l := deps(id, other)
			if got := impl.DepsOk(l); got != depRight(l[0]) {
				t.Errorf("DepsOk(%v) is %v", l, got)
			}
		}
	}
	var few []impl.Dep
	for _, id := range []int{1, 2, 3, 4, 998, 999} {
		few = append(few, waitForMany(id, 1, 2, 3, 4, 998, 999)...)
	}
	right := 0
	for _, a := range few {
		for _, b := range few {
			if got := impl.DepsOk([]impl.Dep{a, b}); got != depsRight([]impl.Dep{a, b}) {
				t.Errorf("DepsOk of %v and %v is %v", a, b, got)
			} else if got {
				right++
			}
		}
	}
	// Of 30 right deps each two in one order.
	if right != 30*29/2 {
		t.Errorf("%d of two are right", right)
	}
}

func TestRound(t *testing.T) {
	for name, c := range edgeDeps() {
		if got := impl.Round(c.l); got != c.round || got != roundOf(c.l) {
			t.Errorf("%s: Round is %v", name, got)
		}
	}
	round, none := 0, 0
	for _, l := range append(drawnDeps(173), everyDeps(4)...) {
		got := impl.Round(l)
		if got != roundOf(l) {
			t.Errorf("Round(%v) is %v", l, got)
		}
		if got {
			round++
		} else {
			none++
		}
	}
	// Without a round there are 543 of the 4096 of four jobs.
	if round < 500+4096-543 || none < 1000+543 {
		t.Errorf("%d go round, %d don't: too few to tell", round, none)
	}
}

// What isn't right doesn't go round, even where a job of it waits for itself over some steps.
func TestRoundOfWrongDeps(t *testing.T) {
	for name, l := range map[string][]impl.Dep{
		"falling":                       deps(2, 1, 1, 2),
		"with one twice":                deps(1, 2, 2, 1, 2, 1),
		"waiting for itself":            deps(1, 1),
		"beside one that waits for 0":   deps(1, 2, 2, 1, 3, 0),
		"with one more than MaxId":      deps(1, 1000, 1000, 1),
		"with 0":                        deps(0, 1, 1, 0),
		"below 0":                       deps(-2, -1, -1, -2),
		"with one more than MaxDeps":    roundAbout(fromTo(1, 101)...),
		"at the end of many":            joined(chainOf(fromTo(1, 100)...), roundAbout(998, 999)),
		"with the greatest numbers":     deps(math.MaxInt-1, math.MaxInt, math.MaxInt, math.MaxInt-1),
		"with the least numbers":        deps(math.MinInt, math.MinInt+1, math.MinInt+1, math.MinInt),
		"with a wrong one at the start": deps(0, 1, 1, 2, 2, 1),
	} {
		if impl.Round(l) {
			t.Errorf("a round %s: Round is true", name)
		}
	}
	for name, l := range wrongDeps() {
		if impl.Round(l) {
			t.Errorf("%s: Round is true", name)
		}
	}
}

func TestDepsAddByHand(t *testing.T) {
	for _, c := range []struct {
		name string
		l    []impl.Dep
		d    impl.Dep
		want []impl.Dep
		code int
	}{
		{"to nil", nil, dep(2, 1), deps(2, 1), 0},
		{"to none", []impl.Dep{}, dep(1, 999), deps(1, 999), 0},
		{"at the first place", deps(3, 1, 4, 1), dep(2, 5), deps(2, 5, 3, 1, 4, 1), 0},
		{"at the first place by its For", deps(3, 2, 4, 1), dep(3, 1), deps(3, 1, 3, 2, 4, 1), 0},
		{"between", deps(3, 1, 5, 1), dep(4, 9), deps(3, 1, 4, 9, 5, 1), 0},
		{"between by its For", deps(3, 1, 3, 5), dep(3, 4), deps(3, 1, 3, 4, 3, 5), 0},
		{"at the last place", deps(3, 1, 4, 1), dep(5, 1), deps(3, 1, 4, 1, 5, 1), 0},
		{"at the last place by its For", deps(3, 1, 4, 1), dep(4, 2), deps(3, 1, 4, 1, 4, 2), 0},
		{"the least for the greatest", deps(2, 1), dep(1, 999), deps(1, 999, 2, 1), 0},
		{"the greatest for the least", deps(2, 1), dep(999, 1), deps(2, 1, 999, 1), 0},
		{"a way across a diamond", deps(1, 2, 1, 3, 2, 4, 3, 4), dep(2, 3), deps(1, 2, 1, 3, 2, 3, 2, 4, 3, 4), 0},
		{"a way that is there over two steps", deps(1, 2, 2, 3), dep(1, 3), deps(1, 2, 1, 3, 2, 3), 0},
		{"two that are apart joined", deps(1, 2, 3, 4), dep(2, 3), deps(1, 2, 2, 3, 3, 4), 0},
		{"the last one there may be", chainOf(fallingTo(100, 1)...), dep(101, 100), fullDeps(), 0},
		{"one that waits for itself", deps(2, 1), dep(3, 3), nil, 1},
		{"one that waits for itself to none", nil, dep(3, 3), nil, 1},
		{"nothing", nil, dep(0, 0), nil, 1},
		{"an Id of 0", deps(2, 1), dep(0, 1), nil, 1},
		{"a For of 0", deps(2, 1), dep(1, 0), nil, 1},
		{"an Id of -1", deps(2, 1), dep(-1, 1), nil, 1},
		{"a For of -1", deps(2, 1), dep(1, -1), nil, 1},
		{"an Id of one more than MaxId", deps(2, 1), dep(1000, 1), nil, 1},
		{"a For of one more than MaxId", deps(2, 1), dep(1, 1000), nil, 1},
		{"to two that are equal", deps(2, 1, 2, 1), dep(3, 1), nil, 1},
		{"to some that fall", deps(3, 1, 2, 1), dep(4, 1), nil, 1},
		{"to one more than MaxDeps", chainOf(fallingTo(102, 1)...), dep(500, 1), nil, 1},
		{"1 ahead of 2: there, but they fall", deps(3, 1, 2, 1), dep(3, 1), nil, 1},
		{"1 ahead of 2: there, but wrong", deps(3, 3), dep(3, 3), nil, 1},
		{"1 ahead of 3: wrong to MaxDeps", fullDeps(), dep(3, 3), nil, 1},
		{"1 ahead of 3: to MaxDeps with a wrong one", slices.Concat(deps(0, 1), chainOf(fallingTo(100, 1)...)), dep(500, 1), nil, 1},
		{"1 ahead of 4: a round, but they fall", deps(3, 1, 2, 3), dep(1, 2), nil, 1},
		{"there alone", deps(2, 1), dep(2, 1), nil, 2},
		{"there at the first place", deps(2, 1, 3, 1, 4, 1), dep(2, 1), nil, 2},
		{"there between", deps(2, 1, 3, 1, 4, 1), dep(3, 1), nil, 2},
		{"there at the last place", deps(2, 1, 3, 1, 4, 1), dep(4, 1), nil, 2},
		{"2 ahead of 3: there in MaxDeps", fullDeps(), dep(50, 49), nil, 2},
		{"2 ahead of 3: there in MaxDeps, first", fullDeps(), dep(2, 1), nil, 2},
		{"2 ahead of 3: there in MaxDeps, last", fullDeps(), dep(101, 100), nil, 2},
		{"2 ahead of 4: there in a round", deps(1, 2, 2, 1), dep(2, 1), nil, 2},
		{"2 ahead of 4: there beside a round", deps(1, 2, 2, 1, 3, 1), dep(3, 1), nil, 2},
		{"to MaxDeps at the last place", fullDeps(), dep(500, 1), nil, 3},
		{"to MaxDeps at the first place", fullDeps(), dep(1, 500), nil, 3},
		{"to MaxDeps between", fullDeps(), dep(50, 1), nil, 3},
		{"3 ahead of 4: a round of MaxDeps and one", fullDeps(), dep(1, 101), nil, 3},
		{"3 ahead of 4: to MaxDeps that go round", roundAbout(fromTo(1, 100)...), dep(500, 501), nil, 3},
		{"a round of two", deps(2, 1), dep(1, 2), nil, 4},
		{"a round of three", deps(2, 3, 3, 1), dep(1, 2), nil, 4},
		{"a round of four", deps(1, 2, 2, 3, 3, 4), dep(4, 1), nil, 4},
		{"a round in a diamond", deps(1, 2, 1, 3, 2, 4, 3, 4), dep(4, 1), nil, 4},
		{"a round of the edges", deps(1, 999), dep(999, 1), nil, 4},
		{"a round of just MaxDeps", chainOf(fallingTo(100, 1)...), dep(1, 100), nil, 4},
		{"to some that go round already", deps(1, 2, 2, 1), dep(5, 6), nil, 4},
		{"behind some that go round already", deps(1, 2, 2, 1), dep(3, 1), nil, 4},
	} {
		got, code := impl.DepsAdd(c.l, c.d)
		if depsText(got, code) != depsText(c.want, c.code) {
			t.Errorf("%s: DepsAdd is %s, not %s", c.name, depsText(got, code), depsText(c.want, c.code))
		}
	}
}

func TestDepsAdd(t *testing.T) {
	draw := rand.New(rand.NewSource(174))
	codes := make(map[int]int)
	try := func(l []impl.Dep, d impl.Dep) {
		got, code := impl.DepsAdd(l, d)
		want, wantCode := depsAddOf(l, d)
		if depsText(got, code) != depsText(want, wantCode) {
			t.Errorf("DepsAdd(%v, %v) is %s, not %s", l, d, depsText(got, code), depsText(want, wantCode))
		}
		if code == 0 && (!impl.DepsOk(got) || impl.Round(got)) {
			t.Errorf("DepsAdd(%v, %v) is %v: not right, or a round", l, d, got)
		}
		codes[code]++
	}
	for _, l := range drawnDeps(175) {
		ids := append(jobsIn(l), 1, 500, 999)
		for range 4 {
			try(l, dep(ids[draw.Intn(len(ids))], ids[draw.Intn(len(ids))]))
		}
		try(l, dep(1+draw.Intn(999), 1+draw.Intn(999)))
		try(l, dep(edgeNumbers[draw.Intn(len(edgeNumbers))], edgeNumbers[draw.Intn(len(edgeNumbers))]))
		if len(l) > 0 {
			d := l[draw.Intn(len(l))]
			try(l, d)
			try(l, dep(d.For, d.Id))
			try(changedDeps(draw, l), d)
		}
	}
	for code := range 5 {
		if codes[code] < 1000 {
			t.Errorf("the code %d came %d times: too few to tell", code, codes[code])
		}
	}
	for _, l := range everyDeps(3) {
		for id := range 6 {
			for other := range 6 {
				try(l, dep(id, other))
			}
		}
	}
}

// Whatever is added behind one another, it never goes round, and all that was added with code 0 is there.
func TestWhatIsAddedNeverGoesRound(t *testing.T) {
	draw := rand.New(rand.NewSource(176))
	full, refused := 0, 0
	for range 60 {
		var l, all []impl.Dep
		ids := drawnIds(draw, 16+draw.Intn(20))
		for range 300 {
			d := dep(ids[draw.Intn(len(ids))], ids[draw.Intn(len(ids))])
			added, code := impl.DepsAdd(l, d)
			if code == 4 {
				refused++
				// The other way about it never closes a round, as then there would be one already.
				if _, back := impl.DepsAdd(l, dep(d.For, d.Id)); back == 4 {
					t.Errorf("%v: neither %v nor the other way can be added", l, d)
				}
			}
			if code != 0 {
				continue
			}
			l, all = added, append(all, d)
			if !depsRight(l) || roundOf(l) || impl.Round(l) || !slices.Equal(l, tidied(all)) {
				t.Errorf("%v all added is %v", all, l)
			}
			if _, ok := impl.Waves(l, ids); !ok {
				t.Errorf("%v doesn't come in waves of %v", l, ids)
			}
		}
		if len(l) == impl.MaxDeps {
			full++
		}
	}
	if full < 10 || refused < 1000 {
		t.Errorf("%d came to MaxDeps, %d would have gone round: too few to tell", full, refused)
	}
}

func TestFreeByHand(t *testing.T) {
	l := deps(1, 2, 2, 3, 2, 5, 999, 1, 999, 998)
	for _, c := range []struct {
		name string
		l    []impl.Dep
		id   int
		done []int
		want bool
	}{
		{"waits for none", l, 3, nil, true},
		{"waits for none, with none done", l, 3, []int{}, true},
		{"waits for none and is done", l, 3, []int{3}, true},
		{"isn't there", l, 7, nil, true},
		{"waits for one", l, 1, nil, false},
		{"waits for one that is done", l, 1, []int{2}, true},
		{"waits for one, another is done", l, 1, []int{3, 5}, false},
		{"only those that it waits for over two steps are done", l, 1, []int{3, 5, 1, 999}, false},
		{"the one that it waits for waits itself", l, 1, []int{2, 2, 2}, true},
		{"is done itself", l, 1, []int{1}, false},
		{"waits for two", l, 2, nil, false},
		{"waits for two, the first is done", l, 2, []int{3}, false},
		{"waits for two, the second is done", l, 2, []int{5}, false},
		{"waits for two, both are done", l, 2, []int{5, 3}, true},
		{"waits for two, the first is done twice", l, 2, []int{3, 3}, false},
		{"waits for two, both are done twice", l, 2, []int{3, 5, 5, 3}, true},
		{"waits for two, all are done", l, 2, fromTo(1, 999), true},
		{"all but one are done", l, 2, append(fromTo(1, 4), fromTo(6, 999)...), false},
		{"at the last place", l, 999, []int{1}, false},
		{"at the last place, all done", l, 999, []int{998, 1}, true},
		{"done has numbers that are no ids", l, 2, []int{0, -1, 1000, math.MinInt, math.MaxInt, 3, 5}, true},
		{"done has only numbers that are no ids", l, 2, []int{0, -1, 1000, math.MinInt, math.MaxInt}, false},
		{"the id 0", l, 0, nil, true},
		{"the id -1", l, -1, nil, true},
		{"the id MaxId and one", l, 1000, nil, true},
		{"the greatest id", l, math.MaxInt, nil, true},
		{"the least id", l, math.MinInt, nil, true},
		{"of none", nil, 1, nil, true},
		{"of none, not nil", []impl.Dep{}, 1, []int{}, true},
		{"in a round", deps(1, 2, 2, 1), 1, nil, false},
		{"in a round, the other is done", deps(1, 2, 2, 1), 1, []int{2}, true},
		{"beside a round", deps(1, 2, 2, 1), 3, nil, true},
		{"of MaxDeps", waitForMany(500, fromTo(1, 100)...), 500, fromTo(1, 99), false},
		{"of MaxDeps, all done", waitForMany(500, fromTo(1, 100)...), 500, fallingTo(100, 1), true},
		{"one more than MaxDeps", waitForMany(500, fromTo(1, 101)...), 500, fromTo(1, 101), false},
		{"one more than MaxDeps, another id", waitForMany(500, fromTo(1, 101)...), 1, fromTo(1, 101), false},
		{"deps that fall", deps(3, 1, 2, 1), 3, []int{1}, false},
		{"deps that fall, another id", deps(3, 1, 2, 1), 7, nil, false},
		{"one that waits for itself", deps(3, 3), 3, []int{3}, false},
	} {
		if got := impl.Free(c.l, c.id, c.done); got != c.want {
			t.Errorf("%s: Free is %v", c.name, got)
		}
	}
}

func TestFree(t *testing.T) {
	draw := rand.New(rand.NewSource(177))
	free, held := 0, 0
	for _, l := range drawnDeps(178) {
		ids := append(jobsIn(l), 0, 1, 500, 999, 1000)
		for range 5 {
			id := ids[draw.Intn(len(ids))]
			done := someOfThem(draw, l)
			done = done[:draw.Intn(len(done)+1)]
			for _, d := range l {
				if d.Id == id && draw.Intn(4) > 0 {
					done = append(done, d.For, d.For)
				}
			}
			got := impl.Free(l, id, done)
			if got != freeOf(l, id, done) {
				t.Errorf("Free(%v, %d, %v) is %v", l, id, done, got)
			}
			if slices.IndexFunc(l, func(d impl.Dep) bool { return d.Id == id }) < 0 {
				continue
			}
			if got {
				free++
			} else {
				held++
			}
		}
	}
	if free < 500 || held < 500 {
		t.Errorf("%d that wait are free, %d not: too few to tell", free, held)
	}
	for _, l := range everyDeps(3) {
		for _, done := range everyIds(4) {
			for id := range 5 {
				if got := impl.Free(l, id, done); got != freeOf(l, id, done) {
					t.Errorf("Free(%v, %d, %v) is %v", l, id, done, got)
				}
			}
		}
	}
}

// A job is free just where nothing is left that it waits for, once all that are done have been taken out.
func TestFreeIsWaitingForNothingOnceTheyAreDone(t *testing.T) {
	draw := rand.New(rand.NewSource(179))
	for _, l := range drawnDeps(180) {
		done := someOfThem(draw, l)
		left := l
		for _, id := range done {
			left = impl.DepsDone(left, id)
		}
		for _, id := range jobsIn(l) {
			waits := slices.ContainsFunc(left, func(d impl.Dep) bool { return d.Id == id })
			if got := impl.Free(l, id, done); got == waits {
				t.Errorf("Free(%v, %d, %v) is %v, what is left is %v", l, id, done, got, left)
			}
		}
	}
}

func TestDepsDoneByHand(t *testing.T) {
	l := deps(1, 2, 2, 3, 3, 5, 4, 2, 4, 3, 999, 2, 999, 998)
	for _, c := range []struct {
		name string
		l    []impl.Dep
		id   int
		want []impl.Dep
	}{
		{"one that many wait for", l, 2, deps(2, 3, 3, 5, 4, 3, 999, 998)},
		{"one that two wait for", l, 3, deps(1, 2, 3, 5, 4, 2, 999, 2, 999, 998)},
		{"one that one waits for", l, 5, deps(1, 2, 2, 3, 4, 2, 4, 3, 999, 2, 999, 998)},
		{"the last one", l, 998, deps(1, 2, 2, 3, 3, 5, 4, 2, 4, 3, 999, 2)},
		{"one that only waits", l, 4, l},
		{"one that only waits, at the first place", l, 1, l},
		{"one that only waits, at the last place", l, 999, l},
		{"one that isn't there", l, 7, l},
		{"the id 0", l, 0, l},
		{"the id -1", l, -1, l},
		{"the id MaxId and one", l, 1000, l},
		{"the greatest id", l, math.MaxInt, l},
		{"the least id", l, math.MinInt, l},
		{"the only one", deps(1, 2), 2, nil},
		{"all wait for it", manyWaitFor(500, fromTo(1, 100)...), 500, nil},
		{"one of MaxDeps", fullDeps(), 100, chainOf(fallingTo(100, 1)...)},
		{"a round is opened", deps(1, 2, 2, 3, 3, 1), 1, deps(1, 2, 2, 3)},
		{"a round stays", deps(1, 2, 2, 1, 3, 4), 4, deps(1, 2, 2, 1)},
		{"of nil", nil, 1, nil},
		{"of none", []impl.Dep{}, 1, nil},
		{"of one more than MaxDeps", chainOf(fallingTo(102, 1)...), 50, nil},
		{"of one more than MaxDeps, one that isn't there", chainOf(fallingTo(102, 1)...), 500, nil},
		{"of some that fall", deps(3, 1, 2, 1), 7, nil},
		{"of equal ones", deps(3, 1, 3, 1), 7, nil},
		{"of one that waits for itself", deps(3, 3, 4, 1), 3, nil},
		{"of one that waits for 0", deps(3, 0, 4, 1), 0, nil},
	} {
		if got := impl.DepsDone(c.l, c.id); depsText(got, 0) != depsText(c.want, 0) {
			t.Errorf("%s: DepsDone is %v, not %v", c.name, got, c.want)
		}
	}
}

func TestDepsDone(t *testing.T) {
	draw := rand.New(rand.NewSource(181))
	less, same := 0, 0
	for _, l := range append(drawnDeps(182), everyDeps(3)...) {
		ids := jobsIn(l)
		draw.Shuffle(len(ids), func(i, k int) { ids[i], ids[k] = ids[k], ids[i] })
		for _, id := range append(ids[:min(len(ids), 8)], 0, -1, 1000, edgeNumbers[draw.Intn(len(edgeNumbers))], 1+draw.Intn(999)) {
			got := impl.DepsDone(l, id)
			if depsText(got, 0) != depsText(depsDoneOf(l, id), 0) {
				t.Errorf("DepsDone(%v, %d) is %v", l, id, got)
			}
			if !impl.DepsOk(got) || slices.ContainsFunc(got, func(d impl.Dep) bool { return d.For == id }) {
				t.Errorf("DepsDone(%v, %d) is %v: not right, or one waits for it still", l, id, got)
			}
			if impl.Round(got) && !impl.Round(l) {
				t.Errorf("DepsDone(%v, %d) is %v: only that goes round", l, id, got)
			}
			if len(got) < len(l) {
				less++
			} else {
				same++
			}
		}
	}
	if less < 5000 || same < 5000 {
		t.Errorf("%d times some went, %d times none: too few to tell", less, same)
	}
}

func TestWavesByHand(t *testing.T) {
	diamond := deps(1, 2, 1, 3, 2, 4, 3, 4)
	for _, c := range []struct {
		name  string
		l     []impl.Dep
		ids   []int
		waves [][]int
		ok    bool
	}{
		{"nil of nil", nil, nil, nil, true},
		{"none of none", []impl.Dep{}, []int{}, nil, true},
		{"no ids", diamond, nil, nil, true},
		{"no ids of a round", deps(1, 2, 2, 1), nil, nil, true},
		{"one id", nil, []int{7}, [][]int{{7}}, true},
		{"the least and the greatest", nil, []int{999, 1}, [][]int{{999, 1}}, true},
		{"no deps: the order of the ids", nil, []int{5, 2, 9, 1}, [][]int{{5, 2, 9, 1}}, true},
		{"one waits", deps(1, 2), []int{1, 2}, [][]int{{2}, {1}}, true},
		{"one waits, the other way", deps(1, 2), []int{2, 1}, [][]int{{2}, {1}}, true},
		{"the edges wait", deps(1, 999), []int{1, 999}, [][]int{{999}, {1}}, true},
		{"a chain", chainOf(1, 2, 3, 4), []int{1, 2, 3, 4}, [][]int{{4}, {3}, {2}, {1}}, true},
		{"a chain from its end", chainOf(1, 2, 3, 4), []int{4, 3, 2, 1}, [][]int{{4}, {3}, {2}, {1}}, true},
		{"a diamond", diamond, []int{1, 2, 3, 4}, [][]int{{4}, {2, 3}, {1}}, true},
		{"a diamond, another order", diamond, []int{3, 1, 4, 2}, [][]int{{4}, {3, 2}, {1}}, true},
		{"a diamond with others between", diamond, []int{9, 3, 7, 1, 4, 8, 2}, [][]int{{9, 7, 4, 8}, {3, 2}, {1}}, true},
		{"many wait for one", manyWaitFor(5, 1, 2, 3), []int{3, 5, 1, 2}, [][]int{{5}, {3, 1, 2}}, true},
		{"one waits for many", waitForMany(5, 1, 2, 3), []int{3, 5, 1, 2}, [][]int{{3, 1, 2}, {5}}, true},
		{"one waits for a late one and for an early one", deps(1, 2, 1, 4, 2, 3), []int{1, 2, 3, 4}, [][]int{{3, 4}, {2}, {1}}, true},
		{"two chains", deps(1, 2, 2, 3, 5, 6), []int{1, 2, 3, 5, 6}, [][]int{{3, 6}, {2, 5}, {1}}, true},
		{"alone, what it waits for is not among them", deps(1, 2), []int{1}, [][]int{{1}}, true},
		{"what it waits for is not among them", deps(1, 2), []int{3, 1}, [][]int{{3, 1}}, true},
		{"a chain with a hole: it waits only directly", chainOf(1, 2, 3), []int{1, 3}, [][]int{{1, 3}}, true},
		{"a chain with a hole behind", chainOf(1, 2, 3, 4), []int{1, 2, 4}, [][]int{{2, 4}, {1}}, true},
		{"a diamond with a hole", diamond, []int{1, 2, 4}, [][]int{{4}, {2}, {1}}, true},
		{"a diamond without its ends", diamond, []int{3, 2}, [][]int{{3, 2}}, true},
		{"a round of two", deps(1, 2, 2, 1), []int{1, 2}, nil, false},
		{"a round of two, and others", deps(1, 2, 2, 1), []int{5, 1, 7, 2}, nil, false},
		{"a round of two with one of them", deps(1, 2, 2, 1), []int{1}, [][]int{{1}}, true},
		{"a round of two with the other", deps(1, 2, 2, 1), []int{5, 2}, [][]int{{5, 2}}, true},
		{"a round of two with none of them", deps(1, 2, 2, 1), []int{5, 6}, [][]int{{5, 6}}, true},
		{"a round of three", roundAbout(1, 2, 3), []int{1, 2, 3}, nil, false},
		{"a round of three without one", roundAbout(1, 2, 3), []int{1, 2}, [][]int{{2}, {1}}, true},
		{"a round of three without another", roundAbout(1, 2, 3), []int{1, 3}, [][]int{{1}, {3}}, true},
		{"a round behind a wave", joined(roundAbout(1, 2, 3), deps(3, 5)), []int{1, 2, 3, 5}, nil, false},
		{"one that waits for a round", joined(roundAbout(1, 2), deps(5, 1)), []int{5, 2}, [][]int{{5, 2}}, true},
		{"one that waits for a round among them", joined(roundAbout(1, 2), deps(5, 1)), []int{5, 2, 1}, nil, false},
		{"a round beside", joined(roundAbout(1, 2), deps(5, 6)), []int{6, 5}, [][]int{{6}, {5}}, true},
		{"an id twice", nil, []int{2, 2}, nil, false},
		{"an id twice, apart", nil, []int{2, 3, 2}, nil, false},
		{"an id twice at the end", nil, []int{1, 2, 3, 3}, nil, false},
		{"an id twice at the beginning", nil, []int{1, 1, 2, 3}, nil, false},
		{"an id of 0", nil, []int{0}, nil, false},
		{"an id of 0 at the end", nil, []int{1, 2, 0}, nil, false},
		{"an id of 0 at the beginning", nil, []int{0, 1, 2}, nil, false},
		{"an id of -1", nil, []int{1, -1}, nil, false},
		{"an id of one more than MaxId", nil, []int{1, 1000}, nil, false},
		{"the greatest id", nil, []int{math.MaxInt}, nil, false},
		{"the least id", nil, []int{math.MinInt, 1}, nil, false},
		{"all ids", nil, fromTo(1, 999), [][]int{fromTo(1, 999)}, true},
		{"all ids, falling", nil, fallingTo(999, 1), [][]int{fallingTo(999, 1)}, true},
		{"one more than all ids", nil, fromTo(1, 1000), nil, false},
		{"one more than all ids, from 0 on", nil, fromTo(0, 999), nil, false},
		{"one more than all ids, one twice", nil, append(fromTo(1, 999), 5), nil, false},
		{"no ids of deps that fall", deps(3, 1, 2, 1), nil, nil, false},
		{"no ids of one that waits for itself", deps(3, 3), nil, nil, false},
		{"deps that fall", deps(3, 1, 2, 1), []int{1, 2}, nil, false},
		{"equal deps", deps(3, 1, 3, 1), []int{1, 3}, nil, false},
		{"one more than MaxDeps", chainOf(fallingTo(102, 1)...), []int{1, 2}, nil, false},
		{"one that waits for 0", deps(3, 0), []int{3}, nil, false},
	} {
		waves, ok := impl.Waves(c.l, c.ids)
		if wavesText(waves, ok) != wavesText(c.waves, c.ok) {
			t.Errorf("%s: Waves is %s, not %s", c.name, wavesText(waves, ok), wavesText(c.waves, c.ok))
		}
	}
}

// The longest chain there may be comes in as many waves, all ids that there are beside it in the first one.
func TestWavesOfTheLongestChain(t *testing.T) {
	for name, l := range map[string][]impl.Dep{"falling": fullDeps(), "rising": chainOf(fromTo(1, 101)...)} {
		for _, ids := range [][]int{fromTo(1, 999), fallingTo(999, 1)} {
			waves, ok := impl.Waves(l, ids)
			want, wantOk := wavesOf(l, ids)
			if wavesText(waves, ok) != wavesText(want, wantOk) || len(waves) != 101 || len(waves[0]) != 999-100 {
				t.Errorf("a chain %s: %d waves, %v", name, len(waves), ok)
			}
		}
	}
	all := roundAbout(fromTo(1, 100)...)
	if waves, ok := impl.Waves(all, fromTo(1, 999)); ok || len(waves) > 0 {
		t.Errorf("a round of MaxDeps: %d waves, %v", len(waves), ok)
	}
	if waves, ok := impl.Waves(all, append(fromTo(1, 49), fromTo(51, 999)...)); !ok || len(waves) != 99 {
		t.Errorf("a round of MaxDeps without one of it: %d waves, %v", len(waves), ok)
	}
}

func TestWaves(t *testing.T) {
	draw := rand.New(rand.NewSource(183))
	few, many, none := 0, 0, 0
	try := func(l []impl.Dep, ids []int) {
		waves, ok := impl.Waves(l, ids)
		want, wantOk := wavesOf(l, ids)
		if wavesText(waves, ok) != wavesText(want, wantOk) {
			t.Errorf("Waves(%v, %v) is %s, not %s", l, ids, wavesText(waves, ok), wavesText(want, wantOk))
		}
		switch {
		case !ok:
			none++
		case len(waves) > 2:
			many++
		default:
			few++
		}
	}
	for _, l := range drawnDeps(184) {
		for range 3 {
			try(l, someOfThem(draw, l))
		}
		ids := someOfThem(draw, l)
		ids = append(ids, edgeNumbers[draw.Intn(len(edgeNumbers))])
		try(l, ids)
		try(changedDeps(draw, l), jobsIn(l))
	}
	if few < 1000 || many < 1000 || none < 1000 {
		t.Errorf("%d came in few waves, %d in more, %d in none: too few to tell", few, many, none)
	}
	for _, ids := range everyIds(4) {
		for _, l := range everyDeps(3) {
			try(l, ids)
		}
	}
	for _, ids := range [][]int{nil, {3}, {4, 1}, {2, 3, 1}, {1, 2, 3, 4}, {4, 3, 2, 1}, {2, 4, 1, 3}, {4, 2, 9, 3, 1}} {
		for _, l := range everyDeps(4) {
			try(l, ids)
		}
	}
}

// waveNumbers tells for each id which wave it is in; each is there just once.
func waveNumbers(t *testing.T, waves [][]int, ids []int) map[int]int {
	number := make(map[int]int)
	told := 0
	for i, wave := range waves {
		for _, id := range wave {
			number[id] = i
			told++
		}
		if len(wave) == 0 {
			t.Errorf("the wave %d of %v is empty", i, waves)
		}
	}
	for _, id := range ids {
		if _, is := number[id]; !is {
			t.Errorf("%d is not in %v", id, waves)
		}
	}
	if told != len(ids) {
		t.Errorf("%v are %d in the waves %v", ids, told, waves)
	}
	return number
}

// inTheOrderOf tells whether the wave has its ids in the order in which they stand in ids.
func inTheOrderOf(ids, wave []int) bool {
	at := -1
	for _, id := range wave {
		next := slices.Index(ids, id)
		if next <= at {
			return false
		}
		at = next
	}
	return true
}

// Every id just once, behind all that it waits for, and no further behind than it must; where there are no waves, there is a round.
func TestEachComesBehindThoseItWaitsFor(t *testing.T) {
	draw := rand.New(rand.NewSource(185))
	noRound, rounds, roundsBeside := 0, 0, 0
	for _, l := range append(drawnDeps(186), everyDeps(4)...) {
		ids := someOfThem(draw, l)
		waves, ok := impl.Waves(l, ids)
		if !ok {
			// Of those that are among the ids, some wait for themselves over such as are among them.
			if !slices.ContainsFunc(ids, func(id int) bool { return slices.Contains(reached(l, id, ids), id) }) {
				t.Errorf("Waves(%v, %v) is false, but they don't go round", l, ids)
			}
			rounds++
			continue
		}
		number := waveNumbers(t, waves, ids)
		for id, wave := range number {
			last := -1
			for _, d := range l {
				if other, isOne := number[d.For]; isOne && d.Id == id {
					last = max(last, other)
				}
			}
			if wave != last+1 {
				t.Errorf("Waves(%v, %v) is %v: %d is in the wave %d, the last that it waits for is in %d", l, ids, waves, id, wave, last)
			}
		}
		for _, wave := range waves {
			if !inTheOrderOf(ids, wave) {
				t.Errorf("Waves(%v, %v) is %v: not in their order", l, ids, waves)
			}
		}
		if roundOf(l) {
			roundsBeside++
		} else {
			noRound++
		}
	}
	if noRound < 1000 || rounds < 1000 || roundsBeside < 500 {
		t.Errorf("%d without a round, %d with one among the ids, %d with one beside them: too few to tell", noRound, rounds, roundsBeside)
	}
}

// Deps that don't go round come in waves, whatever the ids are; all jobs of deps that go round don't.
func TestOnlyARoundKeepsJobsFromComing(t *testing.T) {
	draw := rand.New(rand.NewSource(187))
	for _, l := range append(drawnDeps(188), everyDeps(4)...) {
		round := impl.Round(l)
		if _, ok := impl.Waves(l, jobsIn(l)); ok == round {
			t.Errorf("Round(%v) is %v, Waves of all its jobs %v", l, round, ok)
		}
		ids := someOfThem(draw, l)
		if _, ok := impl.Waves(l, ids); !ok && !round {
			t.Errorf("Round(%v) is false, Waves of %v too", l, ids)
		}
	}
}

// Wave behind wave is done: each job of a wave is free just then, and none of a later one is.
func TestAWaveIsFreeOnceThoseAheadAreDone(t *testing.T) {
	for _, l := range drawnDeps(189) {
		var done []int
		waves, _ := impl.Waves(l, jobsIn(l))
		left := l
		for i, wave := range waves {
			for _, id := range wave {
				if !impl.Free(l, id, done) {
					t.Errorf("%v: %d of the wave %v isn't free behind %v", l, id, wave, done)
				}
			}
			for _, id := range slices.Concat(waves[i+1:]...) {
				if impl.Free(l, id, done) {
					t.Errorf("%v: %d is free behind %v already", l, id, done)
				}
			}
			for _, id := range wave {
				left = impl.DepsDone(left, id)
			}
			done = append(done, wave...)
		}
		if len(waves) > 0 && len(left) > 0 {
			t.Errorf("%v: behind all waves %v is left", l, left)
		}
	}
}

// In what isn't right nothing is added, free, done or told.
func TestWrongDeps(t *testing.T) {
	draw := rand.New(rand.NewSource(190))
	all := wrongDeps()
	for i, l := range drawnDeps(191) {
		if q := changedDeps(draw, l); !depsRight(q) {
			all[fmt.Sprint("drawn ", i)] = q
		}
	}
	if len(all) < 1000 {
		t.Errorf("%d wrong lists: too few to tell", len(all))
	}
	for name, l := range all {
		if impl.Round(l) {
			t.Errorf("%s: Round is true", name)
		}
		some := append(slices.Clone(l[:min(len(l), 15)]), dep(2, 1), dep(777, 888), dep(999, 1), dep(0, 0))
		for _, d := range append(some, l[max(0, len(l)-2):]...) {
			if got, code := impl.DepsAdd(l, d); code != 1 || len(got) > 0 {
				t.Errorf("%s: DepsAdd of %v is %d beside code %d", name, d, len(got), code)
			}
			if impl.Free(l, d.Id, []int{d.For}) || impl.Free(l, d.For, nil) || impl.Free(l, 555, fromTo(1, 999)) {
				t.Errorf("%s: %v is free", name, d)
			}
			if left := impl.DepsDone(l, d.For); len(left) > 0 {
				t.Errorf("%s: DepsDone of %d leaves %d", name, d.For, len(left))
			}
			for _, ids := range [][]int{nil, {555}, {max(1, min(d.Id, 999))}, {1, 2}} {
				if waves, ok := impl.Waves(l, ids); ok || len(waves) > 0 {
					t.Errorf("%s: Waves of %v is %v, %v", name, ids, waves, ok)
				}
			}
		}
	}
}

// What can't be added alone can't be added to any.
func TestAddingWrongOnes(t *testing.T) {
	wrong := 0
	for name, c := range edgeDeps() {
		for _, id := range edgeNumbers {
			for _, other := range edgeNumbers {
				got, code := impl.DepsAdd(c.l, dep(id, other))
				if (code == 1) == depRight(dep(id, other)) || code != 0 && len(got) > 0 {
					t.Errorf("%s: DepsAdd of %d that waits for %d is %v beside code %d", name, id, other, got, code)
				}
				if code == 1 {
					wrong++
				}
			}
		}
	}
	if wrong < 1000 {
		t.Errorf("%d wrong ones: too few to tell", wrong)
	}
}

// Wrong ids at the first place, the last and between, alone and in many.
func TestWavesOfWrongIds(t *testing.T) {
	for _, n := range edgeNumbers {
		isRight := n >= 1 && n <= 999
		for _, ids := range [][]int{{n}, {n, 5, 7}, {5, n, 7}, {5, 7, n}, append(fromTo(3, 900), n), append([]int{n}, fallingTo(900, 3)...)} {
			for _, l := range [][]impl.Dep{nil, deps(5, 7), fullDeps(), deps(998, 999, 999, 998)} {
				waves, ok := impl.Waves(l, ids)
				if ok != isRight || !ok && len(waves) > 0 {
					t.Errorf("%d: Waves of %d ids is %v", n, len(ids), ok)
				}
			}
		}
	}
	for _, ids := range [][]int{make([]int, 1000000), slices.Repeat([]int{5}, 1000000), slices.Repeat(fromTo(1, 999), 1000), fromTo(1, 1000000)} {
		if waves, ok := impl.Waves(nil, ids); ok || len(waves) > 0 {
			t.Errorf("Waves of %d ids is true", len(ids))
		}
	}
	for _, i := range []int{0, 1, 500, 997, 998} {
		for _, k := range []int{0, 1, 500, 997, 998} {
			ids := fromTo(1, 999)
			ids[i] = ids[k]
			if _, ok := impl.Waves(nil, ids); ok != (i == k) {
				t.Errorf("Waves of all ids, but one at %d as at %d, is %v", i, k, ok)
			}
		}
	}
}

func TestNoCallOfDepsPanics(t *testing.T) {
	draw := rand.New(rand.NewSource(192))
	lists := [][]impl.Dep{nil, {}}
	for _, l := range wrongDeps() {
		lists = append(lists, l)
	}
	for _, c := range edgeDeps() {
		lists = append(lists, c.l)
	}
	anyNumber := func() int {
		if draw.Intn(2) == 0 {
			return draw.Intn(5)
		}
		return edgeNumbers[draw.Intn(len(edgeNumbers))]
	}
	for range 2000 {
		var l []impl.Dep
		for range draw.Intn(12) {
			l = append(l, dep(anyNumber(), anyNumber()))
		}
		lists = append(lists, l, tidied(l))
	}
	for _, l := range lists {
		id, d := anyNumber(), dep(anyNumber(), anyNumber())
		var ids []int
		for range draw.Intn(6) {
			ids = append(ids, anyNumber())
		}
		for call, f := range map[string]func(){
			"DepsOk":   func() { impl.DepsOk(l) },
			"Round":    func() { impl.Round(l) },
			"DepsAdd":  func() { impl.DepsAdd(l, d) },
			"Free":     func() { impl.Free(l, id, ids) },
			"DepsDone": func() { impl.DepsDone(l, id) },
			"Waves":    func() { impl.Waves(l, ids) },
		} {
			if panics(f) {
				t.Errorf("%s panics at %.300v, %v, %d, %v", call, l, d, id, ids)
			}
		}
	}
}

// depAnswers has all lists that are worked out of l and ids.
func depAnswers(l []impl.Dep, ids []int) ([][]impl.Dep, [][]int) {
	var answers [][]impl.Dep
	for _, d := range append(slices.Clone(l[:min(len(l), 15)]), dep(1, 999), dep(999, 1), dep(500, 501), dep(0, 0)) {
		for _, other := range []impl.Dep{d, dep(d.For, d.Id), dep(d.Id, 777), dep(777, d.For)} {
			added, _ := impl.DepsAdd(l, other)
			answers = append(answers, added, impl.DepsDone(l, other.For))
		}
	}
	waves, _ := impl.Waves(l, ids)
	return answers, waves
}

func depsToShare() [][]impl.Dep {
	all := drawnDeps(193)[:20*depKinds]
	for _, c := range edgeDeps() {
		all = append(all, c.l)
	}
	return append(all, deps(3, 1, 2, 1), deps(3, 3), make([]impl.Dep, 5), chainOf(fallingTo(102, 1)...))
}

func TestDepsAreLeftAlone(t *testing.T) {
	draw := rand.New(rand.NewSource(194))
	wrong := dep(-7, -7)
	for _, some := range depsToShare() {
		l, ids := withRoomBehind(some, wrong), withRoomBehind(someOfThem(draw, some), -7)
		kept, keptIds := slices.Clone(l[:cap(l)]), slices.Clone(ids[:cap(ids)])
		answers, waves := depAnswers(l, ids)
		for _, answer := range answers {
			writeOver(answer, wrong)
		}
		for _, wave := range waves {
			writeOver(wave, -7)
		}
		writeOver(waves, nil)
		impl.DepsOk(l)
		impl.Round(l)
		for _, id := range ids {
			impl.Free(l, id, ids)
		}
		if !slices.Equal(l[:cap(l)], kept) || !slices.Equal(ids[:cap(ids)], keptIds) {
			t.Errorf("%v and %v have become %v and %v", kept, keptIds, l[:cap(l)], ids[:cap(ids)])
		}
	}
}

// Each list of Waves can be written over, with the room behind it, and the others stay as they are.
func TestNoTwoWavesShareMemory(t *testing.T) {
	draw := rand.New(rand.NewSource(195))
	several := 0
	for _, l := range depsToShare() {
		ids := someOfThem(draw, l)
		want, _ := impl.Waves(l, ids)
		for i := range want {
			waves, _ := impl.Waves(l, ids)
			writeOver(waves[i], -7)
			for k, wave := range waves {
				if k != i && !slices.Equal(wave, want[k]) {
					t.Errorf("Waves(%v, %v): the wave %d has changed with the wave %d", l, ids, k, i)
				}
			}
		}
		if len(want) > 1 {
			several++
		}
	}
	if several < 100 {
		t.Errorf("%d with several waves: too few to tell", several)
	}
}

func TestAnswersOfDepsAreKeptByNobody(t *testing.T) {
	draw := rand.New(rand.NewSource(196))
	for _, l := range depsToShare() {
		ids := someOfThem(draw, l)
		once, onceWaves := depAnswers(l, ids)
		again, waves := depAnswers(l, ids)
		if !slices.EqualFunc(once, again, slices.Equal) || !slices.EqualFunc(onceWaves, waves, slices.Equal) {
			t.Errorf("the answers of %v and %v are not the same twice", l, ids)
		}
		for _, answer := range once {
			writeOver(answer, dep(-7, -7))
		}
		for _, wave := range onceWaves {
			writeOver(wave, -7)
		}
		third, thirdWaves := depAnswers(l, ids)
		if !slices.EqualFunc(again, third, slices.Equal) || !reflect.DeepEqual(waves, thirdWaves) {
			t.Errorf("the answers of %v and %v have changed", l, ids)
		}
	}
}
