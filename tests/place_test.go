package tests

import (
	"math"
	"math/rand"
	"reflect"
	"slices"
	"testing"

	"loop.example/g00454/impl"
)

func vec(a, b, c int) impl.Vec { return impl.Vec{A: a, B: b, C: c} }

// jobRight has the numbers of the document, not the program's constants.
func jobRight(j impl.Job) bool {
	return j.Id >= 1 && j.Id <= 999 && j.Prio >= 0 && j.Prio <= 999 && j.Nodes >= 1 && j.Nodes <= 24 &&
		vecRight(j.Need) && vecRight(j.Lic) && j.Wall >= 1 && j.Wall <= 1000000 && j.Level >= 0 && j.Level <= 24
}

func roomRight(r impl.Room) bool {
	right := topoRight(r.Topo) && len(r.Up) == len(r.Topo.Nodes) && len(r.Profs) == len(r.Topo.Nodes) && profRight(r.Lics)
	for _, p := range r.Profs {
		right = right && profRight(p)
	}
	return right
}

func roomCopy(r impl.Room) impl.Room {
	q := impl.Room{Topo: copyOf(r.Topo), Up: slices.Clone(r.Up), Lics: profCopy(r.Lics)}
	for _, p := range r.Profs {
		q.Profs = append(q.Profs, profCopy(p))
	}
	return q
}

// sameRoom takes a list without elements for the same as none.
func sameRoom(a, b impl.Room) bool {
	return slices.Equal(a.Topo.Parents, b.Topo.Parents) && slices.Equal(a.Topo.Nodes, b.Topo.Nodes) && slices.Equal(a.Up, b.Up) &&
		slices.EqualFunc(a.Profs, b.Profs, sameAnswer) && sameAnswer(a.Lics, b.Lics)
}

func noRoom(r impl.Room) bool { return sameRoom(r, impl.Room{}) }

// roomWith has all nodes up, with the room v free on each of them at all times, and so many licences.
func roomWith(topo impl.Topo, v, lics impl.Vec) impl.Room {
	r := impl.Room{Topo: topo, Lics: pts(impl.Pt{Free: lics})}
	for range topo.Nodes {
		r.Up = append(r.Up, true)
		r.Profs = append(r.Profs, pts(impl.Pt{Free: v}))
	}
	return r
}

// twoLeaves has switch 1 over the nodes 0 and 1, switch 2 over the node 2.
func twoLeaves() impl.Topo {
	return impl.Topo{Parents: []int{0, 0, 0}, Nodes: []impl.Node{{Leaf: 1, Cap: vec(4, 4, 4)}, {Leaf: 1, Cap: vec(4, 4, 4)}, {Leaf: 2, Cap: vec(4, 4, 4)}}}
}

// drawnRoom is small: its points all lie ahead of the time 9.
func drawnRoom(draw *rand.Rand, topo impl.Topo) impl.Room {
	r := impl.Room{Topo: topo, Lics: drawnProf(draw)}
	for range topo.Nodes {
		r.Up = append(r.Up, draw.Intn(6) > 0)
		r.Profs = append(r.Profs, drawnProf(draw))
	}
	return r
}

func drawnProf(draw *rand.Rand) impl.Prof {
	p := pts(at(0, draw.Intn(4), draw.Intn(3), draw.Intn(3)))
	for t := 1; t < 9; t++ {
		if draw.Intn(3) == 0 {
			p.Pts = append(p.Pts, at(t, draw.Intn(4), draw.Intn(3), draw.Intn(3)))
		}
	}
	return tidy(p)
}

func drawnJob(draw *rand.Rand) impl.Job {
	return impl.Job{
		Id: 1 + draw.Intn(999), Prio: draw.Intn(1000), Nodes: 1 + draw.Intn(3), Wall: 1 + draw.Intn(5), Level: draw.Intn(4),
		Need: vec(draw.Intn(4), draw.Intn(2), draw.Intn(2)), Lic: vec(draw.Intn(2), draw.Intn(2), draw.Intn(2)),
	}
}

// smallTopos has small trees of up to three levels, with up to 6 nodes.
func smallTopos() []impl.Topo {
	l := []impl.Topo{{Parents: []int{0}}, {Parents: wide(3)}, twoLeaves()}
	for _, parents := range [][]int{{0}, tall(3), wide(3), wide(4), {0, 0, 0, 1, 1, 2}, {0, 0, 0, 1, 2, 2}, {0, 0, 1, 0, 3, 3, 1}, {0, 0, 1, 0, 2, 3, 5, 3, 7}} {
		l = append(l, withNodes(parents, 1), withNodes(parents, 3), withNodes(parents, 4), withNodes(parents, 6))
	}
	return l
}

func smallRooms() []impl.Room {
	var l []impl.Room
	draw := rand.New(rand.NewSource(11))
	for _, topo := range smallTopos() {
		for range 5 {
			l = append(l, drawnRoom(draw, topo))
		}
	}
	return l
}

// atTheEnd has the points but the first of each Prof as far before MaxTime as they were before the time 8.
func atTheEnd(r impl.Room) impl.Room {
	q := roomCopy(r)
	for _, p := range append(slices.Clone(q.Profs), q.Lics) {
		for i := 1; i < len(p.Pts); i++ {
			p.Pts[i].At += impl.MaxTime - 8
		}
	}
	return q
}

// fullRoom has as many nodes and as many points as there may be, most of them at times of their own.
func fullRoom() impl.Room {
	r := roomWith(withNodes([]int{0, 0, 0, 1, 1, 2, 2}, 24), vec(1, 1, 1), vec(1, 1, 1))
	for node := range r.Profs {
		p := pts(at(0, 10, 10, 10))
		for i := 1; i < 200; i++ {
			p.Pts = append(p.Pts, at(1000*i+node, 10+i%2, 10, 10))
		}
		r.Profs[node] = p
	}
	r.Lics = steps(200, 1000)
	return r
}

// wrongRooms has a name for each way in which a room isn't right.
func wrongRooms() map[string]impl.Room {
	l := map[string]impl.Room{"nothing": {}, "no switch": {Lics: pts(at(0, 1, 1, 1))}, "no licences, no nodes": {Topo: impl.Topo{Parents: []int{0}}}}
	put := func(name string, change func(*impl.Room)) {
		r := roomWith(twoLeaves(), vec(4, 4, 4), vec(4, 4, 4))
		change(&r)
		l[name] = r
	}
	one := pts(at(0, 4, 4, 4))
	put("one Up too few", func(r *impl.Room) { r.Up = r.Up[:2] })
	put("no Up", func(r *impl.Room) { r.Up = nil })
	put("one Up too many", func(r *impl.Room) { r.Up = append(r.Up, true) })
	put("one Prof too few", func(r *impl.Room) { r.Profs = r.Profs[:2] })
	put("no Profs", func(r *impl.Room) { r.Profs = nil })
	put("one Prof too many", func(r *impl.Room) { r.Profs = append(r.Profs, one) })
	put("one Up and one Prof too few", func(r *impl.Room) { r.Up, r.Profs = r.Up[:2], r.Profs[:2] })
	put("one Up and one Prof too many", func(r *impl.Room) { r.Up, r.Profs = append(r.Up, true), append(r.Profs, one) })
	put("one Up too few, one Prof too many", func(r *impl.Room) { r.Up, r.Profs = r.Up[:2], append(r.Profs, one) })
	put("one node too few", func(r *impl.Room) { r.Topo.Nodes = r.Topo.Nodes[:2] })
	put("no nodes", func(r *impl.Room) { r.Topo.Nodes = nil })
	for name, p := range wrongProfs() {
		for node := range 3 {
			put("of the node "+string(rune('0'+node))+" "+name, func(r *impl.Room) { r.Profs[node] = p })
		}
		put("of one that is down "+name, func(r *impl.Room) { r.Profs[1], r.Up[1] = p, false })
		put("of the licences "+name, func(r *impl.Room) { r.Lics = p })
	}
	for name, topo := range wrongTopos() {
		l["of the tree "+name] = roomWith(topo, vec(4, 4, 4), vec(4, 4, 4))
	}
	return l
}

// wrongJobs has jobs that are right but for one number.
func wrongJobs() []impl.Job {
	var l []impl.Job
	right := impl.Job{Id: 1, Nodes: 1, Wall: 1, Level: 1}
	for _, n := range placeEdges {
		for field := range jobFields(&impl.Job{}) {
			j := right
			*jobFields(&j)[field] = n
			if !jobRight(j) {
				l = append(l, j)
			}
		}
	}
	return append(l, impl.Job{})
}

// jobFields has all numbers of the job.
func jobFields(j *impl.Job) []*int {
	return []*int{&j.Id, &j.Prio, &j.Nodes, &j.Need.A, &j.Need.B, &j.Need.C, &j.Lic.A, &j.Lic.B, &j.Lic.C, &j.Wall, &j.Level}
}

// placeEdges has beside the other edges those of this chapter.
var placeEdges = append(slices.Clone(edges), 22, 23, 24, 25, 26, 998, 999, 1000, 1001)

func TestPlaceLimits(t *testing.T) {
	if impl.MaxId != 999 || impl.MaxWall != 1000000 {
		t.Errorf("MaxId %d, MaxWall %d", impl.MaxId, impl.MaxWall)
	}
}

func TestJobOk(t *testing.T) {
	least := impl.Job{Id: 1, Nodes: 1, Wall: 1}
	most := impl.Job{Id: 999, Prio: 999, Nodes: 24, Need: vec(1000000, 1000000, 1000000), Lic: vec(1000000, 1000000, 1000000), Wall: 1000000, Level: 24}
	for _, j := range []impl.Job{least, most, {Id: 7, Prio: 3, Nodes: 2, Need: vec(1, 2, 3), Lic: vec(4, 5, 6), Wall: 60, Level: 1}} {
		if !impl.JobOk(j) {
			t.Errorf("JobOk(%v) is false", j)
		}
	}
	for _, whole := range []impl.Job{least, most} {
		for a := range jobFields(&whole) {
			for _, x := range placeEdges {
				for b := range jobFields(&whole) {
					for _, y := range []int{-1, 0, 1, 24, 25, 999, 1000, 1000000, 1000001} {
						j := whole
						*jobFields(&j)[a] = x
						*jobFields(&j)[b] = y
						if got := impl.JobOk(j); got != jobRight(j) {
							t.Errorf("JobOk(%v) is %v", j, got)
						}
					}
				}
			}
		}
	}
	for _, j := range wrongJobs() {
		if impl.JobOk(j) {
			t.Errorf("JobOk(%v) is true", j)
		}
	}
}

func TestRoomOk(t *testing.T) {
	all := []impl.Room{fullRoom(), {Topo: impl.Topo{Parents: []int{0}}, Up: []bool{}, Profs: []impl.Prof{}, Lics: pts(at(0, 0, 0, 0))}}
	for _, r := range smallRooms() {
		all = append(all, r, atTheEnd(r))
	}
	for _, r := range all {
		if !roomRight(r) || !impl.RoomOk(r) {
			t.Errorf("RoomOk(%v) is false", r)
		}
	}
	for _, topo := range someTopos() {
		if !impl.RoomOk(roomWith(topo, vec(0, 0, 0), vec(0, 0, 0))) {
			t.Errorf("RoomOk of a room of %v is false", topo)
		}
	}
	for _, p := range someProfs() {
		r := roomWith(twoLeaves(), vec(1, 1, 1), vec(1, 1, 1))
		r.Profs[1], r.Lics = p, p
		if !impl.RoomOk(r) {
			t.Errorf("RoomOk with %v is false", p)
		}
	}
	for name, r := range wrongRooms() {
		if roomRight(r) || impl.RoomOk(r) {
			t.Errorf("RoomOk is true: %s", name)
		}
	}
}

// fitsIn looks at one time after the other.
func fitsIn(p impl.Prof, v impl.Vec, times []int, from, to int) bool {
	for _, when := range times {
		free := freeAt(p, when)
		if when >= from && when < to && (v.A > free.A || v.B > free.B || v.C > free.C) {
			return false
		}
	}
	return true
}

func eligibleOf(r impl.Room, need impl.Vec, from, to int) []int {
	var l []int
	for node, p := range r.Profs {
		if r.Up[node] && fitsIn(p, need, append(tellingTimes(p), from), from, to) {
			l = append(l, node)
		}
	}
	return l
}

func TestEligible(t *testing.T) {
	for _, r := range smallRooms() {
		for _, room := range []impl.Room{r, atTheEnd(r)} {
			everySpan([]int{0, 1, 3, 4, 5, 8, impl.MaxTime - 8, impl.MaxTime - 5, impl.MaxTime - 4, impl.MaxTime - 1, impl.MaxTime}, func(from, to int) {
				for _, need := range []impl.Vec{{}, {A: 1}, {A: 3}, {A: 4}, {B: 1}, {B: 2}, {C: 1}, {C: 2}, {A: 1, B: 1, C: 1}} {
					if got := impl.Eligible(room, need, from, to); !slices.Equal(got, eligibleOf(room, need, from, to)) {
						t.Errorf("Eligible(%v, %v, %d, %d) is %v", room, need, from, to, got)
					}
				}
			})
		}
	}
}

func TestEligibleOfEverySpan(t *testing.T) {
	for _, p := range smallProfs() {
		r := roomWith(twoLeaves(), vec(2, 2, 2), vec(0, 0, 0))
		r.Profs[1] = p
		everySpan(upTo(11), func(from, to int) {
			least, _ := impl.ProfMin(p, from, to)
			want := []int{1}
			if impl.VecFits(least, vec(2, 2, 2)) {
				want = []int{0, 1, 2}
			}
			if got := impl.Eligible(r, least, from, to); !slices.Equal(got, want) {
				t.Errorf("Eligible with %v, %v, from %d to %d is %v", p, least, from, to, got)
			}
			for _, more := range []impl.Vec{vec(least.A+1, least.B, least.C), vec(least.A, least.B+1, least.C), vec(least.A, least.B, least.C+1)} {
				if slices.Contains(impl.Eligible(r, more, from, to), 1) {
					t.Errorf("Eligible with %v, %v, from %d to %d has it", p, more, from, to)
				}
			}
		})
	}
}

func TestEligibleByHand(t *testing.T) {
	r := roomWith(twoLeaves(), vec(4, 4, 4), vec(0, 0, 0))
	r.Profs[1] = pts(at(0, 4, 4, 4), at(10, 1, 4, 4), at(20, 4, 4, 4))
	down := roomCopy(r)
	down.Up[0] = false
	none := roomCopy(r)
	none.Up = []bool{false, false, false}
	for name, c := range map[string]struct {
		r        impl.Room
		need     impl.Vec
		from, to int
		want     []int
	}{
		"all":                       {r, vec(4, 4, 4), 0, 10, []int{0, 1, 2}},
		"over a point":              {r, vec(2, 0, 0), 0, 11, []int{0, 2}},
		"just behind":               {r, vec(2, 0, 0), 20, 30, []int{0, 1, 2}},
		"one ahead":                 {r, vec(2, 0, 0), 19, 30, []int{0, 2}},
		"little":                    {r, vec(1, 4, 4), 0, impl.MaxTime, []int{0, 1, 2}},
		"too much of A":             {r, vec(5, 0, 0), 0, 1, nil},
		"too much of B":             {r, vec(0, 5, 0), 0, 1, nil},
		"too much of C":             {r, vec(0, 0, 5), 0, 1, nil},
		"nothing needed":            {r, vec(0, 0, 0), 0, impl.MaxTime, []int{0, 1, 2}},
		"one down":                  {down, vec(2, 0, 0), 0, 10, []int{1, 2}},
		"one down, one full":        {down, vec(2, 0, 0), 10, 20, []int{2}},
		"nothing needed, one down":  {down, vec(0, 0, 0), 0, 1, []int{1, 2}},
		"all down":                  {none, vec(0, 0, 0), 0, 1, nil},
		"the greatest":              {r, vec(impl.MaxRes, 0, 0), 0, 1, nil},
		"one more than it":          {r, vec(impl.MaxRes+1, 0, 0), 0, 1, nil},
		"the last time but one":     {r, vec(4, 4, 4), impl.MaxTime - 1, impl.MaxTime, []int{0, 1, 2}},
		"one beyond":                {r, vec(4, 4, 4), impl.MaxTime - 1, impl.MaxTime + 1, nil},
		"an empty span":             {r, vec(0, 0, 0), 5, 5, nil},
		"a span that runs backward": {r, vec(0, 0, 0), 6, 5, nil},
		"a span from below 0 on":    {r, vec(0, 0, 0), -1, 5, nil},
		"below 0":                   {r, vec(0, 0, -1), 0, 1, nil},
		"of no nodes":               {roomWith(impl.Topo{Parents: wide(3)}, vec(1, 1, 1), vec(1, 1, 1)), vec(0, 0, 0), 0, 1, nil},
	} {
		if got := impl.Eligible(c.r, c.need, c.from, c.to); !slices.Equal(got, c.want) {
			t.Errorf("%s: Eligible is %v", name, got)
		}
	}
}

func TestEligibleOfWrongArguments(t *testing.T) {
	right := roomWith(twoLeaves(), vec(4, 4, 4), vec(4, 4, 4))
	for name, r := range wrongRooms() {
		for _, span := range [][2]int{{0, 1}, {3, 300}, {0, impl.MaxTime}, {5, 5}} {
			if got := impl.Eligible(r, impl.Vec{}, span[0], span[1]); len(got) != 0 {
				t.Errorf("%s: Eligible is %v", name, got)
			}
		}
	}
	for _, span := range emptySpans() {
		if got := impl.Eligible(right, impl.Vec{}, span[0], span[1]); len(got) != 0 {
			t.Errorf("Eligible from %d to %d is %v", span[0], span[1], got)
		}
	}
	for _, need := range vecsOf(edges) {
		want := []int{0, 1, 2}
		if !vecRight(need) || need.A > 4 || need.B > 4 || need.C > 4 {
			want = nil
		}
		if got := impl.Eligible(right, need, 0, 5); !slices.Equal(got, want) {
			t.Errorf("Eligible of %v is %v", need, got)
		}
	}
}

// chooser keeps what a test of many choices in one tree asks again and again.
type chooser struct {
	topo   impl.Topo
	levels []int
	below  [][]int
}

func chooserOf(topo impl.Topo) chooser {
	c := chooser{topo: topo}
	for s := range topo.Parents {
		c.levels = append(c.levels, depths(topo.Parents, s)[0])
		var below []int
		for n, node := range topo.Nodes {
			if slices.Contains(reach(topo.Parents, s), node.Leaf) {
				below = append(below, n)
			}
		}
		c.below = append(c.below, below)
	}
	return c
}

// of has those of the nodes that lie below s.
func (c chooser) of(nodes []int, s int) []int {
	var l []int
	for _, n := range nodes {
		if slices.Contains(c.below[s], n) {
			l = append(l, n)
		}
	}
	return l
}

// top looks level by level for the switch, the document's words one after the other.
func (c chooser) top(nodes []int, n, level int) int {
	for l := 0; l <= min(level, 24); l++ {
		best := -1
		for s := len(c.levels) - 1; s >= 0; s-- {
			has := len(c.of(nodes, s))
			if c.levels[s] == l && has >= n && (best < 0 || has <= len(c.of(nodes, best))) {
				best = s
			}
		}
		if best >= 0 {
			return best
		}
	}
	return -1
}

// choice takes the fullest leaf that is left, again and again.
func (c chooser) choice(nodes []int, n, level int) ([]int, bool) {
	s := c.top(nodes, n, level)
	if n < 1 || s < 0 {
		return nil, false
	}
	left, got := c.of(nodes, s), []int{}
	for len(got) < n {
		full := -1
		for leaf := range c.levels {
			if c.levels[leaf] == 0 && (full < 0 || len(c.of(left, leaf)) > len(c.of(left, full))) {
				full = leaf
			}
		}
		from := c.of(left, full)
		got = append(got, from[:min(len(from), n-len(got))]...)
		left = slices.DeleteFunc(left, func(node int) bool { return slices.Contains(from, node) })
	}
	slices.Sort(got)
	return got, true
}

func chooseIsRight(t *testing.T, c chooser, nodes []int, n, level int) {
	t.Helper()
	want, right := c.choice(nodes, n, level)
	if got, ok := impl.Choose(c.topo, nodes, n, level); ok != right || !slices.Equal(got, want) {
		t.Errorf("Choose(%v, %v, %d, %d) is %v, %v, not %v", c.topo, nodes, n, level, got, ok, want)
	}
}

// everyPart calls f with every part of the nodes from 0 to n - 1, rising.
func everyPart(n int, f func([]int)) {
	for m := range 1 << n {
		var l []int
		for node := range n {
			if m>>node&1 == 1 {
				l = append(l, node)
			}
		}
		f(l)
	}
}

func TestChoose(t *testing.T) {
	everyRightTree(6, func(parents []int) {
		c := chooserOf(withNodes(parents, 6))
		everyPart(6, func(nodes []int) {
			for n := -1; n <= 7; n++ {
				for level := -1; level <= c.levels[0]+1; level++ {
					chooseIsRight(t, c, nodes, n, level)
				}
			}
		})
	})
	for _, topo := range smallTopos() {
		c := chooserOf(topo)
		everyPart(len(topo.Nodes), func(nodes []int) {
			for n := range 8 {
				for level := range 4 {
					chooseIsRight(t, c, nodes, n, level)
				}
			}
		})
	}
}

func TestChooseInGreaterTrees(t *testing.T) {
	draw := rand.New(rand.NewSource(12))
	went := 0
	for _, topo := range someTopos() {
		c := chooserOf(topo)
		for range 60 {
			rare := 1 + draw.Intn(4)
			var nodes []int
			for n := range topo.Nodes {
				if draw.Intn(rare) == 0 {
					nodes = append(nodes, n)
				}
			}
			n, level := 1+draw.Intn(len(nodes)+1), draw.Intn(c.levels[0]+2)
			if draw.Intn(2) == 0 {
				n = 1 + draw.Intn(1+len(nodes)/3)
			}
			chooseIsRight(t, c, nodes, n, level)
			if got, ok := impl.Choose(topo, nodes, n, level); ok {
				went++
				chosenIsLow(t, topo, nodes, n, level, got)
			}
		}
	}
	if went < 2000 {
		t.Errorf("chosen %d times: too few to tell", went)
	}
}

// chosenIsLow asks the promise by the program's own tree, against every switch.
func chosenIsLow(t *testing.T, topo impl.Topo, nodes []int, n, level int, got []int) {
	t.Helper()
	if len(got) != n || !slices.IsSorted(got) || len(slices.Compact(slices.Clone(got))) != n || len(both(got, nodes)) != n {
		t.Errorf("Choose(%v, %v, %d, %d) is %v", topo, nodes, n, level, got)
	}
	low := impl.Level(topo, impl.Lowest(topo, got))
	if low > level {
		t.Errorf("Choose(%v, %v, %d, %d) is %v, with a switch of the level %d", topo, nodes, n, level, got, low)
	}
	least := math.MaxInt
	for s := range topo.Parents {
		if len(both(impl.Below(topo, s), nodes)) >= n {
			least = min(least, impl.Level(topo, s))
		}
	}
	if least < low {
		t.Errorf("Choose(%v, %v, %d, %d) is %v, below the level %d, but %d does", topo, nodes, n, level, got, low, least)
	}
}

// both has what is in a and in b.
func both(a, b []int) []int {
	var l []int
	for _, x := range a {
		if slices.Contains(b, x) {
			l = append(l, x)
		}
	}
	return l
}

func TestChosenLiesBelowTheLowestSwitchThatDoes(t *testing.T) {
	everyRightTree(6, func(parents []int) {
		topo := withNodes(parents, 5)
		everyPart(5, func(nodes []int) {
			for n := 1; n <= len(nodes); n++ {
				for level := range impl.Level(topo, 0) + 2 {
					got, ok := impl.Choose(topo, nodes, n, level)
					if ok {
						chosenIsLow(t, topo, nodes, n, level, got)
						continue
					}
					for s := range topo.Parents {
						if impl.Level(topo, s) <= level && len(both(impl.Below(topo, s), nodes)) >= n {
							t.Errorf("Choose(%v, %v, %d, %d) is false, but the switch %d does", topo, nodes, n, level, s)
						}
					}
				}
			}
		})
	})
}

// threeLevels has 0 over 1 and 2; 1 over the leaves 3 and 4, 2 over 5, 6 and 7; 3 has the nodes 0 and 5, 4 has 1, 6 and 9, 5 has 2 and 7, 6 has 3, 8 and 10, 7 has 4.
func threeLevels() impl.Topo {
	t := impl.Topo{Parents: []int{0, 0, 0, 1, 1, 2, 2, 2}}
	for _, leaf := range []int{3, 4, 5, 6, 7, 3, 4, 5, 6, 4, 6} {
		t.Nodes = append(t.Nodes, impl.Node{Leaf: leaf})
	}
	return t
}

func TestChooseByHand(t *testing.T) {
	topo, all := threeLevels(), upTo(10)
	for name, c := range map[string]struct {
		nodes    []int
		n, level int
		want     []int
	}{
		"one, of the leaf with the fewest":          {all, 1, 0, []int{4}},
		"two, of the first of the leaves with two":  {all, 2, 0, []int{0, 5}},
		"three, just a leaf":                        {all, 3, 0, []int{1, 6, 9}},
		"four, not below a leaf":                    {all, 4, 0, nil},
		"four, the lower full leaf first":           {all, 4, 1, []int{0, 1, 6, 9}},
		"five, just a switch":                       {all, 5, 1, []int{0, 1, 5, 6, 9}},
		"six, the other switch":                     {all, 6, 1, []int{2, 3, 4, 7, 8, 10}},
		"seven, not below it":                       {all, 7, 1, nil},
		"seven, below the top":                      {all, 7, 2, []int{0, 1, 3, 6, 8, 9, 10}},
		"nine, below the top":                       {all, 9, 2, []int{0, 1, 2, 3, 5, 6, 8, 9, 10}},
		"ten, below the top":                        {all, 10, 2, []int{0, 1, 2, 3, 5, 6, 7, 8, 9, 10}},
		"eleven, all":                               {all, 11, 2, all},
		"twelve":                                    {all, 12, 2, nil},
		"one, the level is the least":               {all, 1, 2, []int{4}},
		"two, the level is the least":               {all, 2, 24, []int{0, 5}},
		"three, the level is the greatest int":      {all, 3, math.MaxInt, []int{1, 6, 9}},
		"level -1":                                  {all, 1, -1, nil},
		"the least level":                           {all, 1, math.MinInt, nil},
		"one node":                                  {[]int{7}, 1, 0, []int{7}},
		"two of one leaf":                           {[]int{2, 7}, 2, 0, []int{2, 7}},
		"two of two leaves, level 0":                {[]int{2, 3}, 2, 0, nil},
		"two of two leaves, level 1":                {[]int{2, 3}, 2, 1, []int{2, 3}},
		"two of two switches, level 1":              {[]int{0, 2}, 2, 1, nil},
		"two of two switches, level 2":              {[]int{0, 2}, 2, 2, []int{0, 2}},
		"the fewest, not the least number":          {[]int{0, 1, 5, 6, 9}, 2, 0, []int{0, 5}},
		"the fewest of three":                       {[]int{1, 2, 3, 6, 7, 8, 9, 10}, 2, 0, []int{2, 7}},
		"the least number of equal ones":            {[]int{1, 3, 6, 8, 9, 10}, 2, 0, []int{1, 6}},
		"equal switches, the least number":          {[]int{0, 1, 2, 3}, 2, 1, []int{0, 1}},
		"fewer below the second":                    {[]int{0, 1, 5, 6, 2, 3, 4}, 3, 1, nil},
		"fewer below the second switch":             {[]int{0, 1, 2, 3, 4, 5, 6}, 3, 1, []int{2, 3, 4}},
		"fewer below the first switch":              {[]int{0, 1, 2, 3, 4, 5, 7}, 3, 1, []int{0, 1, 5}},
		"the full leaf first, though greater":       {[]int{0, 1, 2, 5, 6, 9}, 4, 1, []int{0, 1, 6, 9}},
		"the leaf with most of these, not of all":   {[]int{0, 1, 5}, 3, 1, []int{0, 1, 5}},
		"equal leaves, the least number first":      {[]int{2, 3, 7, 8}, 3, 1, []int{2, 3, 7}},
		"the least of the last leaf":                {[]int{2, 3, 7, 8, 10}, 4, 1, []int{2, 3, 8, 10}},
		"none":                                      {nil, 1, 2, nil},
		"none, a list without elements":             {[]int{}, 1, 2, nil},
		"n is 0":                                    {all, 0, 2, nil},
		"n is below 0":                              {all, -1, 2, nil},
		"the least n":                               {all, math.MinInt, 2, nil},
		"the greatest n":                            {all, math.MaxInt, 2, nil},
		"nodes that fall":                           {[]int{1, 0}, 1, 2, nil},
		"nodes that fall at last":                   {[]int{0, 1, 5, 6, 9, 8}, 1, 2, nil},
		"a node twice":                              {[]int{5, 5}, 1, 2, nil},
		"a node twice at last":                      {[]int{0, 1, 5, 5}, 2, 2, nil},
		"node -1":                                   {[]int{-1, 0, 1}, 1, 2, nil},
		"a node that isn't there":                   {[]int{0, 1, 11}, 1, 2, nil},
		"the least and the greatest number as node": {[]int{math.MinInt, 0, math.MaxInt}, 1, 2, nil},
	} {
		got, ok := impl.Choose(topo, c.nodes, c.n, c.level)
		if ok != (c.want != nil) || !slices.Equal(got, c.want) {
			t.Errorf("%s: Choose is %v, %v", name, got, ok)
		}
	}
}

func TestChooseInTheGreatestTrees(t *testing.T) {
	all := upTo(23)
	chain, flat, one := withNodes(tall(24), 24), withNodes(wide(24), 24), withNodes([]int{0}, 24)
	for level := range 25 {
		for name, c := range map[string]struct {
			topo impl.Topo
			n    int
			want []int
		}{
			"all of the chain": {chain, 24, all}, "all of one switch": {one, 24, all}, "five of the chain": {chain, 5, upTo(4)},
			"one too many of the chain": {chain, 25, nil}, "one too many of one switch": {one, 25, nil},
		} {
			if got, ok := impl.Choose(c.topo, all, c.n, level); ok != (c.want != nil) || !slices.Equal(got, c.want) {
				t.Errorf("%s, level %d: Choose is %v, %v", name, level, got, ok)
			}
		}
	}
	// 24 nodes at 23 leaves: leaf 1 has the nodes 0 and 23.
	for n, want := range map[int][]int{1: {1}, 2: {0, 23}} {
		if got, ok := impl.Choose(flat, all, n, 0); !ok || !slices.Equal(got, want) {
			t.Errorf("%d of the flat tree: Choose is %v, %v", n, got, ok)
		}
	}
	if got, ok := impl.Choose(flat, all, 3, 0); ok || len(got) != 0 {
		t.Errorf("3 of the flat tree, level 0: Choose is %v, %v", got, ok)
	}
	if got, ok := impl.Choose(flat, all, 4, 1); !ok || !slices.Equal(got, []int{0, 1, 2, 23}) {
		t.Errorf("4 of the flat tree: Choose is %v, %v", got, ok)
	}
}

func TestChooseOfWrongArguments(t *testing.T) {
	for name, topo := range wrongTopos() {
		for _, nodes := range [][]int{nil, {0}, {0, 1}} {
			for _, n := range []int{-1, 0, 1, 2} {
				if got, ok := impl.Choose(topo, nodes, n, 24); ok || len(got) != 0 {
					t.Errorf("%s: Choose is %v, %v", name, got, ok)
				}
			}
		}
	}
	for _, topo := range someTopos() {
		for _, nodes := range noNodes(len(topo.Nodes)) {
			if got, ok := impl.Choose(topo, nodes, 1, 24); ok || len(got) != 0 {
				t.Errorf("Choose(%v, %v) is %v, %v", topo, nodes, got, ok)
			}
		}
		for _, nodes := range nodeLists(len(topo.Nodes)) {
			rises := len(nodes) < 2 || nodes[1] > nodes[0]
			for i := 1; i < len(nodes); i++ {
				rises = rises && nodes[i] > nodes[i-1]
			}
			if got, ok := impl.Choose(topo, nodes, 1, 24); ok != rises || !rises && len(got) != 0 {
				t.Errorf("Choose(%v, %v) is %v, %v", topo, nodes, got, ok)
			}
		}
		for _, n := range []int{math.MinInt, -1, 0, len(topo.Nodes) + 1, 25, math.MaxInt} {
			if got, ok := impl.Choose(topo, upTo(len(topo.Nodes)-1), n, 24); ok || len(got) != 0 {
				t.Errorf("Choose(%v) of %d is %v, %v", topo, n, got, ok)
			}
		}
	}
	if got, ok := impl.Choose(withNodes([]int{0}, 24), make([]int, 100000), 1, 24); ok || len(got) != 0 {
		t.Errorf("Choose of many zeros is %v, %v", got, ok)
	}
}

// placeOf is what the document says of one time t.
func placeOf(c chooser, r impl.Room, j impl.Job, t int) ([]int, bool) {
	to := t + j.Wall
	if to > 1000000000 || !fitsIn(r.Lics, j.Lic, append(tellingTimes(r.Lics), t), t, to) {
		return nil, false
	}
	return c.choice(eligibleOf(r, j.Need, t, to), j.Nodes, j.Level)
}

// earliestIsRight tries time after time from from on, up to last.
func earliestIsRight(t *testing.T, r impl.Room, j impl.Job, from, last int) bool {
	t.Helper()
	c := chooserOf(r.Topo)
	var when int
	var nodes []int
	var right bool
	for at := from; at <= last && !right; at++ {
		nodes, right = placeOf(c, r, j, at)
		when = at
	}
	if !right {
		when, nodes = 0, nil
	}
	got, on, ok := impl.Earliest(r, j, from)
	if got != when || !slices.Equal(on, nodes) || ok != right {
		t.Errorf("Earliest(%v, %+v, %d) is %d, %v, %v, not %d, %v, %v", r, j, from, got, on, ok, when, nodes, right)
	}
	return ok
}

func TestEarliest(t *testing.T) {
	draw := rand.New(rand.NewSource(13))
	went, not := 0, 0
	for _, r := range smallRooms() {
		for range 25 {
			j, from := drawnJob(draw), draw.Intn(11)
			if earliestIsRight(t, r, j, from, 20) {
				went++
			} else {
				not++
			}
		}
	}
	if went < 500 || not < 500 {
		t.Errorf("there is a time %d times, none %d times: too few to tell", went, not)
	}
}

func TestEarliestAtTheEndOfTime(t *testing.T) {
	draw := rand.New(rand.NewSource(14))
	went, not := 0, 0
	for _, r := range smallRooms() {
		for range 12 {
			j, from := drawnJob(draw), impl.MaxTime-draw.Intn(14)
			if earliestIsRight(t, atTheEnd(r), j, from, impl.MaxTime+3) {
				went++
			} else {
				not++
			}
		}
	}
	if went < 300 || not < 300 {
		t.Errorf("there is a time %d times, none %d times: too few to tell", went, not)
	}
}

// couldGo asks whether some nodes that are up, and below a switch as asked, can be reserved at t.
func couldGo(r impl.Room, j impl.Job, t int) bool {
	goes := false
	everyPart(len(r.Topo.Nodes), func(nodes []int) {
		if goes || len(nodes) != j.Nodes || slices.ContainsFunc(nodes, func(n int) bool { return !r.Up[n] }) {
			return
		}
		if impl.Level(r.Topo, impl.Lowest(r.Topo, nodes)) <= j.Level {
			_, goes = impl.Reserve(r, j, t, nodes)
		}
	})
	return goes
}

func TestEarliestIsTheEarliest(t *testing.T) {
	draw := rand.New(rand.NewSource(15))
	for _, r := range smallRooms() {
		for range 6 {
			j, from := drawnJob(draw), draw.Intn(9)
			when, nodes, ok := impl.Earliest(r, j, from)
			last := when
			if ok {
				if _, goes := impl.Reserve(r, j, when, nodes); !goes || when < from {
					t.Errorf("Earliest(%v, %v, %d) is %d, %v, but it doesn't go there", r, j, from, when, nodes)
				}
				if slices.ContainsFunc(nodes, func(n int) bool { return !r.Up[n] }) || impl.Level(r.Topo, impl.Lowest(r.Topo, nodes)) > j.Level {
					t.Errorf("Earliest(%v, %v, %d) is on %v", r, j, from, nodes)
				}
			} else {
				last = 16
			}
			for sooner := from; sooner < last; sooner++ {
				if couldGo(r, j, sooner) {
					t.Errorf("Earliest(%v, %v, %d) is %d, %v, but %d goes", r, j, from, when, ok, sooner)
				}
			}
		}
	}
}

// withProfs changes what is free on some nodes of the room of two leaves, and of the licences.
func withProfs(lics impl.Prof, profs ...impl.Prof) impl.Room {
	r := roomWith(twoLeaves(), vec(4, 4, 4), vec(4, 4, 4))
	copy(r.Profs, profs)
	r.Lics = lics
	return r
}

func downAt(r impl.Room, nodes ...int) impl.Room {
	for _, n := range nodes {
		r.Up[n] = false
	}
	return r
}

func TestEarliestByHand(t *testing.T) {
	free, full := pts(at(0, 4, 4, 4)), pts(at(0, 0, 0, 0))
	from := func(t int) impl.Prof { return pts(at(0, 0, 0, 0), at(t, 4, 4, 4)) }
	before := func(t int) impl.Prof { return pts(at(0, 4, 4, 4), at(t, 0, 0, 0)) }
	hole := func(t, u int) impl.Prof { return pts(at(0, 0, 0, 0), at(t, 4, 4, 4), at(u, 0, 0, 0)) }
	end, wall := impl.MaxTime, impl.MaxWall
	job := func(nodes, wall, level int) impl.Job {
		return impl.Job{Id: 1, Nodes: nodes, Need: vec(2, 2, 2), Lic: vec(1, 1, 1), Wall: wall, Level: level}
	}
	for name, c := range map[string]struct {
		r    impl.Room
		j    impl.Job
		from int
		at   int
		want []int
	}{
		"at once, the leaf with the fewest":       {withProfs(free), job(1, 10, 0), 0, 0, []int{2}},
		"at once, both of a leaf":                 {withProfs(free), job(2, 10, 0), 7, 7, []int{0, 1}},
		"all":                                     {withProfs(free), job(3, 10, 1), 3, 3, []int{0, 1, 2}},
		"all, not below a leaf":                   {withProfs(free), job(3, 10, 0), 0, 0, nil},
		"more than there are":                     {withProfs(free), job(4, 10, 24), 0, 0, nil},
		"as many as there may be":                 {withProfs(free), job(24, 10, 24), 0, 0, nil},
		"just at a point":                         {withProfs(free, from(5), from(5), full), job(2, 10, 0), 0, 5, []int{0, 1}},
		"just at a point, which is from":          {withProfs(free, from(5), from(5), full), job(2, 10, 0), 5, 5, []int{0, 1}},
		"behind a point":                          {withProfs(free, from(5), from(5), full), job(2, 10, 0), 6, 6, []int{0, 1}},
		"one ahead of a point":                    {withProfs(free, from(5), from(5), full), job(2, 10, 0), 4, 5, []int{0, 1}},
		"the later of two points":                 {withProfs(free, from(5), from(9), full), job(2, 10, 0), 0, 9, []int{0, 1}},
		"a lesser level later":                    {withProfs(free, from(5), from(9), free), job(2, 10, 0), 0, 9, []int{0, 1}},
		"a greater level sooner":                  {withProfs(free, from(5), from(9), free), job(2, 10, 1), 0, 5, []int{0, 2}},
		"one node that isn't free yet":            {withProfs(free, from(5), from(9), full), job(1, 10, 0), 0, 5, []int{0}},
		"the first of two at one time":            {withProfs(free, full, from(9), from(9)), job(1, 10, 1), 0, 9, []int{1}},
		"a hole just long enough":                 {withProfs(free, hole(5, 15), full, full), job(1, 10, 0), 0, 5, []int{0}},
		"a hole one too short":                    {withProfs(free, hole(5, 14), full, full), job(1, 10, 0), 0, 0, nil},
		"a hole that has begun":                   {withProfs(free, hole(5, 16), full, full), job(1, 10, 0), 6, 6, []int{0}},
		"a hole that has begun too long ago":      {withProfs(free, hole(5, 16), full, full), job(1, 10, 0), 7, 0, nil},
		"the second hole":                         {withProfs(free, hole(5, 14), full, hole(20, 30)), job(1, 10, 0), 0, 20, []int{2}},
		"free before it all":                      {withProfs(free, before(10), full, full), job(1, 10, 0), 0, 0, []int{0}},
		"free before it all, one too late":        {withProfs(free, before(10), full, full), job(1, 10, 0), 1, 0, nil},
		"no licences":                             {withProfs(full), job(1, 10, 0), 0, 0, nil},
		"licences that come free later":           {withProfs(from(30), from(5), from(9), full), job(2, 10, 0), 0, 30, []int{0, 1}},
		"licences that come free sooner":          {withProfs(from(3), from(5), from(9), full), job(2, 10, 0), 0, 9, []int{0, 1}},
		"licences that come free at once":         {withProfs(from(9), from(5), from(9), full), job(2, 10, 0), 0, 9, []int{0, 1}},
		"licences that end too soon":              {withProfs(before(18), from(5), from(9), full), job(2, 10, 0), 0, 0, nil},
		"licences that end just in time":          {withProfs(before(19), from(5), from(9), full), job(2, 10, 0), 0, 9, []int{0, 1}},
		"licences that end too soon, then not":    {withProfs(pts(at(0, 4, 4, 4), at(18, 4, 4, 0), at(25, 4, 1, 1)), from(5), from(9), full), job(2, 10, 0), 0, 25, []int{0, 1}},
		"licences in a hole, nodes at its end":    {withProfs(hole(5, 20), full, full, from(10)), job(1, 10, 0), 0, 10, []int{2}},
		"licences in a hole, nodes behind it":     {withProfs(hole(5, 20), full, full, from(11)), job(1, 10, 0), 0, 0, nil},
		"other nodes when the licences come":      {withProfs(from(30), before(30), from(25), full), job(1, 10, 0), 0, 30, []int{1}},
		"one down":                                {downAt(withProfs(free), 2), job(1, 10, 0), 0, 0, []int{0}},
		"one down of a leaf":                      {downAt(withProfs(free), 1), job(2, 10, 0), 0, 0, nil},
		"one down, a greater level":               {downAt(withProfs(free), 1), job(2, 10, 1), 0, 0, []int{0, 2}},
		"one down that would be sooner":           {downAt(withProfs(free, from(5), from(9), from(7)), 0), job(1, 10, 0), 0, 7, []int{2}},
		"all down":                                {downAt(withProfs(free), 0, 1, 2), job(1, 10, 0), 0, 0, nil},
		"just up to the end":                      {withProfs(free), job(1, 10, 0), end - 10, end - 10, []int{2}},
		"one beyond the end":                      {withProfs(free), job(1, 10, 0), end - 9, 0, nil},
		"the last time with wall 1":               {withProfs(free), job(1, 1, 0), end - 1, end - 1, []int{2}},
		"at the end":                              {withProfs(free), job(1, 1, 0), end, 0, nil},
		"a point just in time":                    {withProfs(free, full, full, from(end-10)), job(1, 10, 0), 0, end - 10, []int{2}},
		"a point one too late":                    {withProfs(free, full, full, from(end-9)), job(1, 10, 0), 0, 0, nil},
		"a point at the end":                      {withProfs(free, full, full, from(end)), job(1, 1, 0), 0, 0, nil},
		"licences just in time":                   {withProfs(from(end - 10)), job(1, 10, 0), 0, end - 10, []int{2}},
		"licences one too late":                   {withProfs(from(end - 9)), job(1, 10, 0), 0, 0, nil},
		"full at the end":                         {withProfs(before(end), before(end), before(end), before(end)), job(3, 10, 1), end - 10, end - 10, []int{0, 1, 2}},
		"full one ahead of the end":               {withProfs(before(end), before(end), before(end), before(end-1)), job(3, 10, 1), end - 10, 0, nil},
		"the longest wall at 0":                   {withProfs(free), job(1, wall, 0), 0, 0, []int{2}},
		"the longest wall just up to the end":     {withProfs(free), job(1, wall, 0), end - wall, end - wall, []int{2}},
		"the longest wall one beyond":             {withProfs(free), job(1, wall, 0), end - wall + 1, 0, nil},
		"a hole for the longest wall":             {withProfs(free, hole(7, wall+7), full, full), job(1, wall, 0), 0, 7, []int{0}},
		"a hole one too short for it":             {withProfs(free, hole(7, wall+6), full, full), job(1, wall, 0), 0, 0, nil},
		"nothing needed":                          {withProfs(full, full, full, full), impl.Job{Id: 1, Nodes: 3, Wall: 10, Level: 1}, 4, 4, []int{0, 1, 2}},
		"no nodes":                                {roomWith(impl.Topo{Parents: wide(3)}, vec(4, 4, 4), vec(4, 4, 4)), impl.Job{Id: 1, Nodes: 1, Wall: 1, Level: 1}, 0, 0, nil},
		"a level above all":                       {withProfs(free), job(3, 10, 24), 0, 0, []int{0, 1, 2}},
		"the greatest Id and Prio":                {withProfs(free), impl.Job{Id: 999, Prio: 999, Nodes: 1, Wall: 1}, 0, 0, []int{2}},
		"one Id too great":                        {withProfs(free), impl.Job{Id: 1000, Nodes: 1, Wall: 1}, 0, 0, nil},
		"one wall too long":                       {withProfs(free), job(1, wall+1, 0), 0, 0, nil},
		"from -1":                                 {withProfs(free), job(1, 1, 0), -1, 0, nil},
		"from beyond the end":                     {withProfs(free), job(1, 1, 0), end + 1, 0, nil},
		"B alone comes late":                      {withProfs(free, pts(at(0, 4, 1, 4), at(6, 2, 2, 2)), full, full), job(1, 10, 0), 0, 6, []int{0}},
		"C alone comes late":                      {withProfs(free, pts(at(0, 4, 4, 1), at(6, 2, 2, 2)), full, full), job(1, 10, 0), 0, 6, []int{0}},
		"one licence of the third kind":           {withProfs(pts(at(0, 4, 4, 0), at(6, 1, 1, 1))), job(1, 10, 0), 0, 6, []int{2}},
		"a point at which less comes free":        {withProfs(free, pts(at(0, 0, 0, 0), at(3, 1, 1, 1), at(5, 1, 2, 3), at(8, 2, 2, 2)), full, full), job(1, 10, 0), 0, 8, []int{0}},
		"the choice is that of the time, not now": {withProfs(from(12), from(12), from(12), before(12)), job(1, 10, 0), 0, 12, []int{0}},
	} {
		when, nodes, ok := impl.Earliest(c.r, c.j, c.from)
		if when != c.at || !slices.Equal(nodes, c.want) || ok != (c.want != nil) {
			t.Errorf("%s: Earliest is %d, %v, %v", name, when, nodes, ok)
		}
	}
}

func TestEarliestOfWrongArguments(t *testing.T) {
	right, j := roomWith(twoLeaves(), vec(4, 4, 4), vec(4, 4, 4)), impl.Job{Id: 1, Nodes: 1, Wall: 1, Level: 1}
	for name, r := range wrongRooms() {
		if when, nodes, ok := impl.Earliest(r, j, 0); ok || when != 0 || len(nodes) != 0 {
			t.Errorf("%s: Earliest is %d, %v, %v", name, when, nodes, ok)
		}
	}
	for _, j := range wrongJobs() {
		if when, nodes, ok := impl.Earliest(right, j, 3); ok || when != 0 || len(nodes) != 0 {
			t.Errorf("Earliest of %v is %d, %v, %v", j, when, nodes, ok)
		}
	}
	for _, from := range noTimes {
		if when, nodes, ok := impl.Earliest(right, j, from); ok || when != 0 || len(nodes) != 0 {
			t.Errorf("Earliest from %d is %d, %v, %v", from, when, nodes, ok)
		}
	}
}

func TestEarliestInTheFullestRoom(t *testing.T) {
	r := fullRoom()
	for _, c := range []struct {
		nodes, level, wall int
		a                  int
		at                 int
		ok                 bool
	}{
		{24, 2, 1, 10, 0, true}, {6, 0, 980, 11, 1020, true}, {6, 0, 981, 11, 199020, true}, {24, 2, 900, 11, 1023, true}, {24, 2, 1000, 11, 199023, true}, {24, 2, 977, 11, 1023, true}, {24, 2, 978, 11, 199023, true},
		{24, 2, 1000000, 12, 0, false}, {24, 2, 1000000, 11, 199023, true}, {24, 1, 1, 11, 0, false},
	} {
		j := impl.Job{Id: 1, Nodes: c.nodes, Need: vec(c.a, 0, 0), Wall: c.wall, Level: c.level}
		if when, nodes, ok := impl.Earliest(r, j, 0); when != c.at || ok != c.ok || ok && len(nodes) != c.nodes {
			t.Errorf("%+v: Earliest is %d, %v, %v", c, when, nodes, ok)
		}
	}
}

// movedRoom has each of the nodes and the licences moved by themselves.
func movedRoom(r impl.Room, j impl.Job, from, to int, nodes []int, move func(impl.Prof, int, int, impl.Vec) (impl.Prof, bool)) (impl.Room, bool) {
	right := roomRight(r) && jobRight(j) && len(nodes) == j.Nodes
	seen := map[int]int{}
	for _, n := range nodes {
		seen[n]++
		right = right && n >= 0 && n < len(r.Topo.Nodes) && seen[n] == 1
	}
	if !right {
		return impl.Room{}, false
	}
	q := roomCopy(r)
	var ok bool
	if q.Lics, ok = move(r.Lics, from, to, j.Lic); !ok {
		return impl.Room{}, false
	}
	for _, n := range nodes {
		if q.Profs[n], ok = move(r.Profs[n], from, to, j.Need); !ok {
			return impl.Room{}, false
		}
	}
	return q, true
}

func reserveIsRight(t *testing.T, r impl.Room, j impl.Job, at int, nodes []int) bool {
	t.Helper()
	want, right := movedRoom(r, j, at, at+j.Wall, nodes, takenFrom)
	got, ok := impl.Reserve(r, j, at, nodes)
	if ok != right || !sameRoom(got, want) {
		t.Errorf("Reserve(%v, %+v, %d, %v) is %v, %v", r, j, at, nodes, got, ok)
	}
	return ok
}

func releaseIsRight(t *testing.T, r impl.Room, j impl.Job, from, to int, nodes []int) bool {
	t.Helper()
	want, right := movedRoom(r, j, from, to, nodes, givenTo)
	got, ok := impl.Release(r, j, from, to, nodes)
	if ok != right || !sameRoom(got, want) {
		t.Errorf("Release(%v, %+v, %d, %d, %v) is %v, %v", r, j, from, to, nodes, got, ok)
	}
	return ok
}

// drawnNodes has so many of the nodes, different ones, in any order, and fewer where there aren't so many.
func drawnNodes(draw *rand.Rand, n, many int) []int {
	return draw.Perm(n)[:min(n, many)]
}

func TestReserveAndRelease(t *testing.T) {
	draw := rand.New(rand.NewSource(16))
	took, gave := 0, 0
	for _, r := range smallRooms() {
		for range 30 {
			j := drawnJob(draw)
			j.Need.A, j.Lic = draw.Intn(3), vec(draw.Intn(2), 0, draw.Intn(2))
			nodes := drawnNodes(draw, len(r.Topo.Nodes), j.Nodes)
			for _, room := range []impl.Room{r, atTheEnd(r)} {
				at := draw.Intn(12)
				if draw.Intn(3) == 0 {
					at = impl.MaxTime - draw.Intn(12)
				}
				if reserveIsRight(t, room, j, at, nodes) {
					took++
				}
				if releaseIsRight(t, room, j, at, at+1+draw.Intn(9), nodes) {
					gave++
				}
			}
		}
	}
	if took < 1000 || gave < 1000 {
		t.Errorf("taken %d times, given %d times: too few to tell", took, gave)
	}
}

func TestReserveByHand(t *testing.T) {
	r := withProfs(pts(at(0, 3, 3, 3)), pts(at(0, 4, 4, 4), at(10, 1, 4, 4), at(20, 4, 4, 4)))
	j := impl.Job{Id: 1, Nodes: 2, Need: vec(2, 1, 0), Lic: vec(3, 0, 1), Wall: 10, Level: 0}
	want := withProfs(pts(at(0, 0, 3, 2), at(10, 3, 3, 3)), pts(at(0, 2, 3, 4), at(10, 1, 4, 4), at(20, 4, 4, 4)), pts(at(0, 4, 4, 4)), pts(at(0, 2, 3, 4), at(10, 4, 4, 4)))
	for _, nodes := range [][]int{{0, 2}, {2, 0}} {
		// 0 and 2 lie below a switch of the level 1, which Reserve doesn't ask for.
		if got, ok := impl.Reserve(r, j, 0, nodes); !ok || !sameRoom(got, want) {
			t.Errorf("Reserve on %v is %v, %v", nodes, got, ok)
		}
	}
	down, wantDown := downAt(roomCopy(r), 0, 1), downAt(roomCopy(want), 0, 1)
	if got, ok := impl.Reserve(down, j, 0, []int{0, 2}); !ok || !sameRoom(got, wantDown) {
		t.Errorf("Reserve on a node that is down is %v, %v", got, ok)
	}
	for name, c := range map[string]struct {
		change func(*impl.Job)
		at     int
		nodes  []int
		ok     bool
	}{
		"as it was":                      {nil, 0, []int{0, 2}, true},
		"one of them is full later":      {nil, 1, []int{0, 2}, false},
		"the other one of them":          {nil, 1, []int{2, 0}, false},
		"not these":                      {nil, 1, []int{1, 2}, true},
		"just behind":                    {nil, 20, []int{0, 2}, true},
		"one ahead":                      {nil, 19, []int{0, 2}, false},
		"too few nodes":                  {nil, 0, []int{2}, false},
		"too many nodes":                 {nil, 0, []int{0, 1, 2}, false},
		"no nodes":                       {nil, 0, nil, false},
		"one twice":                      {nil, 0, []int{2, 2}, false},
		"one twice, right in number":     {func(j *impl.Job) { j.Nodes = 3 }, 0, []int{2, 1, 2}, false},
		"all three":                      {func(j *impl.Job) { j.Nodes = 3 }, 0, []int{2, 0, 1}, true},
		"node -1":                        {nil, 0, []int{-1, 2}, false},
		"node 3":                         {nil, 0, []int{2, 3}, false},
		"the greatest node":              {nil, 0, []int{2, math.MaxInt}, false},
		"the least node":                 {nil, 0, []int{math.MinInt, 2}, false},
		"too many licences":              {func(j *impl.Job) { j.Lic.A = 4 }, 0, []int{0, 2}, false},
		"too many of the third":          {func(j *impl.Job) { j.Lic.C = 4 }, 0, []int{0, 2}, false},
		"all of all":                     {func(j *impl.Job) { j.Need, j.Lic = vec(4, 4, 4), vec(3, 3, 3) }, 0, []int{0, 2}, true},
		"one too much of B":              {func(j *impl.Job) { j.Need.B = 5 }, 0, []int{0, 2}, false},
		"up to the end":                  {nil, impl.MaxTime - 10, []int{0, 2}, true},
		"one beyond the end":             {nil, impl.MaxTime - 9, []int{0, 2}, false},
		"at the end":                     {nil, impl.MaxTime, []int{0, 2}, false},
		"beyond the end":                 {nil, impl.MaxTime + 1, []int{0, 2}, false},
		"ahead of all times":             {nil, -1, []int{0, 2}, false},
		"up to 0":                        {nil, -10, []int{0, 2}, false},
		"at the greatest":                {nil, math.MaxInt, []int{0, 2}, false},
		"at the least":                   {nil, math.MinInt, []int{0, 2}, false},
		"wraps round to a time":          {nil, math.MaxInt - 5, []int{0, 2}, false},
		"the longest wall":               {func(j *impl.Job) { j.Wall = impl.MaxWall }, impl.MaxTime - impl.MaxWall, []int{0, 2}, true},
		"one too long":                   {func(j *impl.Job) { j.Wall = impl.MaxWall + 1 }, 20, []int{0, 2}, false},
		"no wall":                        {func(j *impl.Job) { j.Wall = 0 }, 0, []int{0, 2}, false},
		"a wall below 0":                 {func(j *impl.Job) { j.Wall = -5 }, 10, []int{0, 2}, false},
		"the job isn't right in its Id":  {func(j *impl.Job) { j.Id = 0 }, 0, []int{0, 2}, false},
		"an amount below 0":              {func(j *impl.Job) { j.Need.A = -1 }, 0, []int{0, 2}, false},
		"a licence below 0":              {func(j *impl.Job) { j.Lic.B = -1 }, 0, []int{0, 2}, false},
		"nothing needed":                 {func(j *impl.Job) { j.Need, j.Lic = impl.Vec{}, impl.Vec{} }, 0, []int{0, 2}, true},
		"nothing needed, beyond the end": {func(j *impl.Job) { j.Need, j.Lic = impl.Vec{}, impl.Vec{} }, impl.MaxTime - 9, []int{0, 2}, false},
	} {
		x := j
		if c.change != nil {
			c.change(&x)
		}
		if got, ok := impl.Reserve(r, x, c.at, c.nodes); ok != c.ok || !ok && !noRoom(got) {
			t.Errorf("%s: Reserve is %v, %v", name, got, ok)
		}
		reserveIsRight(t, r, x, c.at, c.nodes)
	}
}

func TestReleaseByHand(t *testing.T) {
	r := withProfs(pts(at(0, 0, 3, 2), at(10, 3, 3, 3)), pts(at(0, 2, 3, 4), at(10, 4, 4, 4)), pts(at(0, 2, impl.MaxRes-1, 4)))
	j := impl.Job{Id: 1, Nodes: 2, Need: vec(2, 1, 0), Lic: vec(3, 0, 1), Wall: 10, Level: 0}
	want := withProfs(pts(at(0, 3, 3, 3)), pts(at(0, 4, 4, 4)), pts(at(0, 4, impl.MaxRes, 4), at(10, 2, impl.MaxRes-1, 4)))
	if got, ok := impl.Release(r, j, 0, 10, []int{1, 0}); !ok || !sameRoom(got, want) {
		t.Errorf("Release is %v, %v", got, ok)
	}
	part := withProfs(pts(at(0, 0, 3, 2), at(4, 3, 3, 3)), pts(at(0, 2, 3, 4), at(4, 4, 4, 4)), pts(at(0, 2, impl.MaxRes-1, 4), at(4, 4, impl.MaxRes, 4), at(10, 2, impl.MaxRes-1, 4)))
	if got, ok := impl.Release(r, j, 4, 10, []int{0, 1}); !ok || !sameRoom(got, part) {
		t.Errorf("Release of a part is %v, %v", got, ok)
	}
	for name, c := range map[string]struct {
		change   func(*impl.Job)
		from, to int
		nodes    []int
		ok       bool
	}{
		"longer than its wall":          {nil, 0, 1000, []int{0, 1}, true},
		"all times":                     {nil, 0, impl.MaxTime, []int{0, 1}, true},
		"just the last time but one":    {nil, impl.MaxTime - 1, impl.MaxTime, []int{0, 1}, true},
		"one beyond":                    {nil, 0, impl.MaxTime + 1, []int{0, 1}, false},
		"empty":                         {nil, 5, 5, []int{0, 1}, false},
		"backwards":                     {nil, 6, 5, []int{0, 1}, false},
		"from -1":                       {nil, -1, 5, []int{0, 1}, false},
		"the least and the greatest":    {nil, math.MinInt, math.MaxInt, []int{0, 1}, false},
		"too much of B":                 {func(j *impl.Job) { j.Need.B = 2 }, 0, 10, []int{0, 1}, false},
		"too much of B, the other way":  {func(j *impl.Job) { j.Need.B = 2 }, 0, 10, []int{1, 0}, false},
		"not too much on the others":    {func(j *impl.Job) { j.Need.B = 2 }, 0, 10, []int{0, 2}, true},
		"more than there ever was":      {func(j *impl.Job) { j.Need.A = 500 }, 0, 10, []int{0, 1}, true},
		"too many licences":             {func(j *impl.Job) { j.Lic.C = impl.MaxRes - 1 }, 0, 10, []int{0, 1}, false},
		"too many licences later":       {func(j *impl.Job) { j.Lic.C = impl.MaxRes - 2 }, 0, 11, []int{0, 1}, false},
		"just the most licences":        {func(j *impl.Job) { j.Lic.C = impl.MaxRes - 2 }, 0, 10, []int{0, 1}, true},
		"too few nodes":                 {nil, 0, 10, []int{0}, false},
		"too many nodes":                {nil, 0, 10, []int{0, 1, 2}, false},
		"no nodes":                      {nil, 0, 10, nil, false},
		"one twice":                     {nil, 0, 10, []int{0, 0}, false},
		"node -1":                       {nil, 0, 10, []int{-1, 0}, false},
		"node 3":                        {nil, 0, 10, []int{0, 3}, false},
		"the job isn't right":           {func(j *impl.Job) { j.Wall = 0 }, 0, 10, []int{0, 1}, false},
		"the job isn't right in its Id": {func(j *impl.Job) { j.Id = 1000 }, 0, 10, []int{0, 1}, false},
		"an amount below 0":             {func(j *impl.Job) { j.Need.A = -1 }, 0, 10, []int{0, 1}, false},
		"a licence below 0":             {func(j *impl.Job) { j.Lic.B = -1 }, 0, 10, []int{0, 1}, false},
	} {
		x := j
		if c.change != nil {
			c.change(&x)
		}
		if got, ok := impl.Release(r, x, c.from, c.to, c.nodes); ok != c.ok || !ok && !noRoom(got) {
			t.Errorf("%s: Release is %v, %v", name, got, ok)
		}
		releaseIsRight(t, r, x, c.from, c.to, c.nodes)
	}
}

func TestReserveAndReleaseOfAllNodes(t *testing.T) {
	r := roomWith(withNodes(wide(24), 24), vec(4, 4, 4), vec(4, 4, 4))
	j := impl.Job{Id: 999, Prio: 999, Nodes: 24, Need: vec(4, 0, 4), Lic: vec(0, 4, 4), Wall: impl.MaxWall, Level: 24}
	when, nodes, ok := impl.Earliest(r, j, 7)
	if !ok || when != 7 || !slices.Equal(nodes, upTo(23)) {
		t.Fatalf("Earliest is %d, %v, %v", when, nodes, ok)
	}
	q, ok := impl.Reserve(r, j, when, nodes)
	if !ok || !reserveIsRight(t, r, j, when, nodes) {
		t.Fatalf("Reserve is %v, %v", q, ok)
	}
	if again, _, ok := impl.Earliest(q, j, 0); !ok || again != 7+impl.MaxWall {
		t.Errorf("Earliest behind it is %d, %v", again, ok)
	}
	slices.Reverse(nodes)
	if back, ok := impl.Release(q, j, when, when+j.Wall, nodes); !ok || !sameRoom(back, r) || !releaseIsRight(t, q, j, when, when+j.Wall, nodes) {
		t.Errorf("Release is %v, %v", back, ok)
	}
	if got, ok := impl.Reserve(r, j, when, nodes[:23]); ok || !noRoom(got) {
		t.Errorf("Reserve on 23 of 24 is %v, %v", got, ok)
	}
}

func TestReserveAndReleaseOfWrongArguments(t *testing.T) {
	right, j := roomWith(twoLeaves(), vec(4, 4, 4), vec(4, 4, 4)), impl.Job{Id: 1, Nodes: 1, Wall: 1, Level: 1}
	neither := func(name string, r impl.Room, j impl.Job, from, to int, nodes []int) {
		took, ok := impl.Reserve(r, j, from, nodes)
		gave, also := impl.Release(r, j, from, to, nodes)
		if ok || also || !noRoom(took) || !noRoom(gave) {
			t.Errorf("%s: Reserve is %v, %v, Release is %v, %v", name, took, ok, gave, also)
		}
	}
	for name, r := range wrongRooms() {
		for node := range 3 {
			neither(name, r, j, 0, 5, []int{node})
		}
	}
	for _, j := range wrongJobs() {
		for many := range 3 {
			neither("a job that isn't right", right, j, 0, 5, upTo(many-1))
		}
		reserveIsRight(t, right, j, 3, []int{1})
	}
	for _, span := range emptySpans() {
		if got, ok := impl.Release(right, j, span[0], span[1], []int{1}); ok || !noRoom(got) {
			t.Errorf("Release from %d to %d is %v, %v", span[0], span[1], got, ok)
		}
	}
	for _, when := range noTimes {
		if got, ok := impl.Reserve(right, j, when, []int{1}); ok || !noRoom(got) {
			t.Errorf("Reserve at %d is %v, %v", when, got, ok)
		}
	}
	for _, nodes := range noNodes(3) {
		x := j
		x.Nodes = len(nodes)
		neither("no nodes", right, x, 0, 5, nodes)
	}
	for _, nodes := range nodeLists(3) {
		x := j
		x.Nodes = len(nodes)
		reserveIsRight(t, right, x, 0, nodes)
		releaseIsRight(t, right, x, 0, 5, nodes)
	}
	neither("very many nodes", right, j, 0, 5, make([]int, 100000))
}

func TestReserveWithTheMostPoints(t *testing.T) {
	most, one := steps(200, 10), impl.Job{Id: 1, Nodes: 2, Need: vec(0, 1, 0), Lic: vec(0, 1, 0), Wall: 3}
	for name, r := range map[string]impl.Room{"of a node": withProfs(pts(at(0, 4, 4, 4)), pts(at(0, 4, 4, 4)), most), "of the licences": withProfs(most)} {
		for _, when := range []int{0, 5, 10, 2000} {
			if reserveIsRight(t, r, one, when, []int{0, 1}) || releaseIsRight(t, r, one, when, when+3, []int{0, 1}) {
				t.Errorf("%s: at %d there would be too many points", name, when)
			}
		}
	}
	ten := one
	ten.Wall = 10
	r := withProfs(most, most, most)
	if !reserveIsRight(t, r, ten, 30, []int{0, 1}) || !releaseIsRight(t, r, ten, 30, 40, []int{1, 0}) {
		t.Error("just a step of 200 can't be taken or given")
	}
	if _, _, ok := impl.Earliest(withProfs(most), one, 5); !ok {
		t.Error("there is room at 5, though Reserve has no point for it")
	}
}

func TestReservedAndReleasedLeavesNoTrace(t *testing.T) {
	draw := rand.New(rand.NewSource(17))
	took := 0
	for _, r := range append(smallRooms(), fullRoom()) {
		for range 20 {
			j := drawnJob(draw)
			nodes := drawnNodes(draw, len(r.Topo.Nodes), j.Nodes)
			at := draw.Intn(11)
			if when, on, ok := impl.Earliest(r, j, at); ok {
				at, nodes = when, on
			}
			q, ok := impl.Reserve(r, j, at, nodes)
			if !ok {
				continue
			}
			took++
			slices.Reverse(nodes)
			if back, ok := impl.Release(q, j, at, at+j.Wall, nodes); !ok || !sameRoom(back, r) {
				t.Errorf("%+v reserved at %d on %v and released leaves %v of %v", j, at, nodes, back, r)
			}
			// Given back in two parts is given back.
			if mid := at + j.Wall/2; mid > at {
				early, ok := impl.Release(q, j, at, mid, nodes)
				back, also := impl.Release(early, j, mid, at+j.Wall, nodes)
				if !ok || !also || !sameRoom(back, r) {
					t.Errorf("%+v reserved at %d on %v and released in parts leaves %v of %v", j, at, nodes, back, r)
				}
			}
		}
	}
	if took < 500 {
		t.Errorf("reserved %d times: too few to tell", took)
	}
}

// held is a job that has its nodes from a time on.
type held struct {
	j     impl.Job
	at    int
	nodes []int
}

func TestManyReservedAndReleasedLeaveNoTrace(t *testing.T) {
	draw := rand.New(rand.NewSource(18))
	for _, topo := range append(smallTopos(), withNodes([]int{0, 0, 0, 1, 1, 2, 2}, 24)) {
		first := roomWith(topo, vec(5, 4, 3), vec(6, 6, 6))
		r, has := first, []held{}
		for range 25 {
			j := drawnJob(draw)
			when, nodes, ok := impl.Earliest(r, j, draw.Intn(10))
			if !ok {
				continue
			}
			q, ok := impl.Reserve(r, j, when, nodes)
			if !ok || !roomRight(q) {
				t.Fatalf("Reserve(%v, %v, %d, %v) is %v, %v", r, j, when, nodes, q, ok)
			}
			r, has = q, append(has, held{j, when, nodes})
			heldIsRight(t, r, first, has)
		}
		for len(has) > 0 {
			i := draw.Intn(len(has))
			h := has[i]
			has = slices.Delete(slices.Clone(has), i, i+1)
			q, ok := impl.Release(r, h.j, h.at, h.at+h.j.Wall, h.nodes)
			if !ok {
				t.Fatalf("%v can't be given back to %v", h, r)
			}
			r = q
			heldIsRight(t, r, first, has)
		}
		if !sameRoom(r, first) {
			t.Errorf("all given back leaves %v of %v", r, first)
		}
	}
}

// heldIsRight holds the room at each time against what was there less what the jobs have.
func heldIsRight(t *testing.T, r, first impl.Room, has []held) {
	t.Helper()
	var lics []taken
	nodes := make([][]taken, len(first.Profs))
	for _, h := range has {
		lics = append(lics, taken{h.at, h.at + h.j.Wall, h.j.Lic})
		for _, n := range h.nodes {
			nodes[n] = append(nodes[n], taken{h.at, h.at + h.j.Wall, h.j.Need})
		}
	}
	for when := range 40 {
		if got := freeAt(r.Lics, when); got != leftAt(freeAt(first.Lics, when), lics, when) {
			t.Fatalf("of the licences at %d are free %v, with %v", when, got, has)
		}
		for n, p := range r.Profs {
			if got := freeAt(p, when); got != leftAt(freeAt(first.Profs[n], when), nodes[n], when) {
				t.Fatalf("on the node %d at %d is free %v, with %v", n, when, got, has)
			}
		}
	}
}

// roomLists has for each list of the room what writes all over it, up to its capacity.
func roomLists(r impl.Room) []func() {
	l := []func(){
		func() { writeOver(r.Topo.Parents, -7) },
		func() { writeOver(r.Topo.Nodes, impl.Node{Leaf: -7}) },
		func() { writeOver(r.Up, true) },
		func() { writeOver(r.Up, false) },
		func() { writeOver(r.Lics.Pts, at(-7, -7, -7, -7)) },
	}
	for _, p := range r.Profs {
		l = append(l, func() { writeOver(p.Pts, at(-7, -7, -7, -7)) })
	}
	return append(l, func() { writeOver(r.Profs, impl.Prof{}) })
}

func writeOver[T any](l []T, x T) {
	l = l[:cap(l)]
	for i := range l {
		l[i] = x
	}
}

// withRoomBehind has the same elements, and memory behind them that a careless append would write to.
func withRoomBehind[T any](l []T, x T) []T {
	long := append(slices.Clone(l), x, x, x)
	return long[:len(l)]
}

// shared is the room with lists that have memory behind them; nodes with the same Prof have the very same list.
func shared(r impl.Room) impl.Room {
	q := impl.Room{
		Topo: impl.Topo{Parents: withRoomBehind(r.Topo.Parents, -3), Nodes: withRoomBehind(r.Topo.Nodes, impl.Node{Leaf: -3})},
		Up:   withRoomBehind(r.Up, true), Lics: pts(withRoomBehind(r.Lics.Pts, at(-3, -3, -3, -3))...),
	}
	for i, p := range r.Profs {
		if i > 0 && sameAnswer(p, r.Profs[i-1]) {
			q.Profs = append(q.Profs, q.Profs[i-1])
		} else {
			q.Profs = append(q.Profs, pts(withRoomBehind(p.Pts, at(-3, -3, -3, -3))...))
		}
		if sameAnswer(p, r.Lics) {
			q.Lics = q.Profs[i]
		}
	}
	q.Profs = withRoomBehind(q.Profs, impl.Prof{})
	return q
}

// wholeRoom is the room with all that lies behind its lists.
func wholeRoom(r impl.Room) impl.Room {
	q := impl.Room{
		Topo: impl.Topo{Parents: r.Topo.Parents[:cap(r.Topo.Parents)], Nodes: r.Topo.Nodes[:cap(r.Topo.Nodes)]},
		Up:   r.Up[:cap(r.Up)], Lics: pts(r.Lics.Pts[:cap(r.Lics.Pts)]...),
	}
	for _, p := range r.Profs[:cap(r.Profs)] {
		q.Profs = append(q.Profs, pts(p.Pts[:cap(p.Pts)]...))
	}
	return q
}

// roomsToShare has rooms whose nodes and licences have the same, and others.
func roomsToShare() []impl.Room {
	l := []impl.Room{roomWith(twoLeaves(), vec(4, 4, 4), vec(4, 4, 4)), withProfs(steps(5, 3), steps(5, 3), steps(5, 3), steps(5, 3)), roomWith(withNodes(wide(24), 24), vec(4, 4, 4), vec(4, 4, 4))}
	draw := rand.New(rand.NewSource(19))
	for range 6 {
		l = append(l, drawnRoom(draw, twoLeaves()))
	}
	return l
}

// roomAnswers has the rooms that are worked out of r.
func roomAnswers(r impl.Room, nodes []int) []impl.Room {
	var l []impl.Room
	for _, v := range []impl.Vec{{}, {A: 1}} {
		j := impl.Job{Id: 1, Nodes: len(nodes), Need: v, Lic: v, Wall: 2, Level: 1}
		for _, when := range []int{0, 4, impl.MaxTime - 2} {
			took, _ := impl.Reserve(r, j, when, nodes)
			gave, _ := impl.Release(r, j, when, when+2, nodes)
			l = append(l, took, gave)
		}
	}
	return l
}

func TestRoomsAreLeftAlone(t *testing.T) {
	for _, room := range roomsToShare() {
		r := shared(room)
		kept := roomCopy(wholeRoom(r))
		for _, nodes := range [][]int{{0}, {2}, {1, 0}, {0, 1, 2}} {
			nodes = withRoomBehind(nodes, -3)
			given := slices.Clone(nodes[:cap(nodes)])
			for _, answer := range roomAnswers(r, nodes) {
				for _, write := range roomLists(answer) {
					write()
				}
			}
			writeOver(impl.Eligible(r, impl.Vec{}, 0, 5), -7)
			impl.RoomOk(r)
			for _, j := range []impl.Job{{Id: 1, Nodes: 1, Wall: 1, Level: 1}, {Id: 1, Nodes: 3, Need: vec(1, 1, 1), Wall: 4, Level: 1}} {
				_, on, _ := impl.Earliest(r, j, 0)
				writeOver(on, -7)
			}
			for n := range len(nodes) + 1 {
				on, _ := impl.Choose(r.Topo, nodes, n, 1)
				writeOver(on, -7)
			}
			if !slices.Equal(nodes[:cap(nodes)], given) {
				t.Errorf("%v has become %v", given, nodes[:cap(nodes)])
			}
		}
		if !reflect.DeepEqual(wholeRoom(r), kept) {
			t.Errorf("%v has become %v", kept, wholeRoom(r))
		}
	}
}

func TestChosenIsNewMemory(t *testing.T) {
	for _, topo := range smallTopos() {
		everyPart(len(topo.Nodes), func(part []int) {
			for n := 1; n <= len(part); n++ {
				nodes := withRoomBehind(part, -3)
				given, kept := slices.Clone(nodes[:cap(nodes)]), copyOf(topo)
				got, _ := impl.Choose(topo, nodes, n, 3)
				writeOver(got, -7)
				if !slices.Equal(nodes[:cap(nodes)], given) || !reflect.DeepEqual(topo, kept) {
					t.Errorf("%v has become %v, or %v has become %v", given, nodes[:cap(nodes)], kept, topo)
				}
			}
		})
	}
}

func TestNoTwoListsOfARoomShareMemory(t *testing.T) {
	for _, room := range roomsToShare() {
		for k := range roomAnswers(room, []int{1, 0}) {
			many := len(roomLists(roomAnswers(shared(room), []int{1, 0})[k]))
			for i := range many {
				answer := roomAnswers(shared(room), []int{1, 0})[k]
				want := roomCopy(answer)
				roomLists(answer)[i]()
				// The same is written over in the copy, which shares nothing.
				roomLists(want)[i]()
				if !sameRoom(answer, want) {
					t.Errorf("the answer %d of %v: its list %d shares memory with another", k, room, i)
				}
			}
		}
	}
}

func TestRoomAnswersAreKeptByNobody(t *testing.T) {
	for _, r := range roomsToShare() {
		once, again := roomAnswers(r, []int{0, 2}), roomAnswers(r, []int{0, 2})
		for _, answer := range once {
			for _, write := range roomLists(answer) {
				write()
			}
		}
		if !reflect.DeepEqual(again, roomAnswers(r, []int{0, 2})) {
			t.Errorf("the answers of %v have changed", r)
		}
	}
	r := roomWith(twoLeaves(), vec(4, 4, 4), vec(4, 4, 4))
	j := impl.Job{Id: 1, Nodes: 2, Wall: 1, Level: 1}
	for range 2 {
		eligible := impl.Eligible(r, impl.Vec{}, 0, 1)
		chosen, _ := impl.Choose(r.Topo, []int{0, 1, 2}, 3, 1)
		_, on, _ := impl.Earliest(r, j, 0)
		if !slices.Equal(eligible, upTo(2)) || !slices.Equal(chosen, upTo(2)) || !slices.Equal(on, upTo(1)) {
			t.Errorf("Eligible is %v, Choose %v, Earliest %v", eligible, chosen, on)
		}
		writeOver(eligible, -7)
		writeOver(chosen, -7)
		writeOver(on, -7)
	}
}
