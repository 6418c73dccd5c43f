package tests

import (
	"fmt"
	"math"
	"math/rand"
	"reflect"
	"slices"
	"strings"
	"testing"

	"loop.example/g00454/impl"
)

// queueRight has the numbers of the document, not the program's constants.
func queueRight(l []impl.Job) bool {
	right := len(l) <= 60
	seen := map[int]int{}
	for _, j := range l {
		seen[j.Id]++
		right = right && jobRight(j) && seen[j.Id] == 1
	}
	return right
}

// ranked takes the job that comes first of those left, again and again.
func ranked(l []impl.Job) []impl.Job {
	left, got := slices.Clone(l), []impl.Job{}
	for len(left) > 0 {
		first := 0
		for i, j := range left {
			if j.Prio > left[first].Prio || j.Prio == left[first].Prio && j.Id < left[first].Id {
				first = i
			}
		}
		got = append(got, left[first])
		left = slices.Delete(left, first, first+1)
	}
	return got
}

// lastPoint is the last time at which anything in the room changes.
func lastPoint(r impl.Room) int {
	last := 0
	for _, p := range append(slices.Clone(r.Profs), r.Lics) {
		last = max(last, p.Pts[len(p.Pts)-1].At)
	}
	return last
}

// soonest tries time after time from now on.
func soonest(r impl.Room, j impl.Job, now int) (int, []int, bool) {
	c := chooserOf(r.Topo)
	for when := now; when <= max(now, lastPoint(r)); when++ {
		if nodes, ok := placeOf(c, r, j, when); ok {
			return when, nodes, true
		}
	}
	return 0, nil, false
}

// planOf is the document's words one after the other, without the program's places.
func planOf(r impl.Room, now int, l []impl.Job, depth int) (starts, later []impl.Held) {
	for _, j := range ranked(l) {
		when, nodes, ok := soonest(r, j, now)
		if !ok || when > now && len(later) >= depth {
			continue
		}
		left, ok := movedRoom(r, j, when, when+j.Wall, nodes, takenFrom)
		if !ok {
			continue
		}
		r = left
		h := impl.Held{Id: j.Id, At: when, Nodes: nodes}
		if when == now {
			starts = append(starts, h)
		} else {
			later = append(later, h)
		}
	}
	return starts, later
}

// sameHeld takes a list without elements for the same as none.
func sameHeld(a, b []impl.Held) bool {
	return slices.EqualFunc(a, b, func(x, y impl.Held) bool { return x.Id == y.Id && x.At == y.At && slices.Equal(x.Nodes, y.Nodes) })
}

func heldCopy(l []impl.Held) []impl.Held {
	var q []impl.Held
	for _, h := range l {
		q = append(q, impl.Held{Id: h.Id, At: h.At, Nodes: slices.Clone(h.Nodes)})
	}
	return q
}

func heldText(l []impl.Held) string {
	var words []string
	for _, h := range l {
		words = append(words, fmt.Sprintf("%d@%d%v", h.Id, h.At, h.Nodes))
	}
	return strings.Join(words, " ")
}

// planText is what starts, a '|', what is reserved; "false" where Plan says that and tells nothing.
func planText(starts, later []impl.Held, ok bool) string {
	if !ok && len(starts) == 0 && len(later) == 0 {
		return "false"
	}
	if !ok {
		return "false, with " + heldText(starts) + "|" + heldText(later)
	}
	return heldText(starts) + "|" + heldText(later)
}

// drawnQueue has n jobs of few different Prios, so that many are told apart by their Ids.
func drawnQueue(draw *rand.Rand, n int) []impl.Job {
	var l []impl.Job
	ids := draw.Perm(999)
	for i := range n {
		j := drawnJob(draw)
		j.Id, j.Prio = 1+ids[i], draw.Intn(4)
		l = append(l, j)
	}
	return l
}

// drawnPlan is what Plan is asked.
type drawnPlan struct {
	r     impl.Room
	now   int
	l     []impl.Job
	depth int
}

// drawnPlans has rooms whose room goes up and down, at both ends of the times, and rooms in which all is free.
func drawnPlans(seed int64) []drawnPlan {
	var l []drawnPlan
	draw := rand.New(rand.NewSource(seed))
	depths := []int{0, 1, 1, 2, 2, 3, 60}
	put := func(r impl.Room, now int) {
		l = append(l, drawnPlan{r, now, drawnQueue(draw, draw.Intn(10)), depths[draw.Intn(len(depths))]})
	}
	for _, r := range smallRooms() {
		put(r, draw.Intn(10))
		put(r, 0)
		put(atTheEnd(r), impl.MaxTime-draw.Intn(15))
		free := roomWith(r.Topo, vec(4, 3, 3), vec(3, 3, 3))
		put(free, draw.Intn(3))
		free = roomWith(r.Topo, vec(3, 2, 2), vec(9, 9, 9))
		free.Up = slices.Clone(r.Up)
		put(free, impl.MaxTime-20)
	}
	return l
}

// fullQueue has so many jobs, the Ids from 1 on.
func fullQueue(n int) []impl.Job {
	var l []impl.Job
	for i := range n {
		l = append(l, impl.Job{Id: i + 1, Prio: i % 3, Nodes: 1, Need: vec(1, 1, 1), Wall: 10, Level: 1})
	}
	return l
}

// wrongQueues has a name for each way in which a queue isn't right.
func wrongQueues() map[string][]impl.Job {
	l := map[string][]impl.Job{"61 jobs": fullQueue(61), "62 jobs": fullQueue(62), "999 jobs": fullQueue(999), "very many jobs": make([]impl.Job, 100000), "a job with nothing": {{}}}
	for i, j := range wrongJobs() {
		l[fmt.Sprintf("the wrong job %d alone", i)] = []impl.Job{j}
		for place := range 4 {
			queue := fullQueue(4)
			for k := range queue {
				queue[k].Id += 100
			}
			queue[place] = j
			l[fmt.Sprintf("the wrong job %d at %d", i, place)] = queue
		}
	}
	for a := range 5 {
		for b := range a {
			queue := fullQueue(5)
			queue[a].Id = queue[b].Id
			l[fmt.Sprintf("the Id of %d at %d too", b, a)] = queue
		}
	}
	twice := fullQueue(60)
	twice[59].Id = 1
	l["60 jobs, the last with the Id of the first"] = twice
	l["one and the same job twice"] = []impl.Job{fullQueue(1)[0], fullQueue(1)[0]}
	return l
}

func TestPlanLimits(t *testing.T) {
	if impl.MaxQueue != 60 {
		t.Errorf("MaxQueue %d", impl.MaxQueue)
	}
}

func TestQueueOk(t *testing.T) {
	for n := range 64 {
		if got := impl.QueueOk(fullQueue(n)); got != (n <= 60) {
			t.Errorf("QueueOk of %d jobs is %v", n, got)
		}
	}
	least, most := impl.Job{Id: 1, Nodes: 1, Wall: 1}, impl.Job{Id: 999, Prio: 999, Nodes: 24, Need: vec(1000000, 1000000, 1000000), Lic: vec(1000000, 1000000, 1000000), Wall: 1000000, Level: 24}
	alike := least
	alike.Id = 2
	for _, l := range [][]impl.Job{nil, {}, {least}, {most}, {least, most}, {most, least}, {least, alike}, {most, alike, least}} {
		if !impl.QueueOk(l) {
			t.Errorf("QueueOk(%v) is false", l)
		}
	}
	for name, l := range wrongQueues() {
		if queueRight(l) || impl.QueueOk(l) {
			t.Errorf("%s: QueueOk is true", name)
		}
	}
	draw := rand.New(rand.NewSource(20))
	right := 0
	for range 3000 {
		l := drawnQueue(draw, draw.Intn(64))
		for range draw.Intn(3) {
			if len(l) > 0 {
				l[draw.Intn(len(l))].Id = 1 + draw.Intn(999)
			}
		}
		if got := impl.QueueOk(l); got != queueRight(l) {
			t.Errorf("QueueOk(%v) is %v", l, got)
		} else if got {
			right++
		}
	}
	if right < 500 || right > 2950 {
		t.Errorf("%d of 3000 queues are right: too few or too many to tell", right)
	}
}

func TestOrder(t *testing.T) {
	draw := rand.New(rand.NewSource(21))
	for n := range 61 {
		for range 10 {
			l := drawnQueue(draw, n)
			want := ranked(l)
			if got := impl.Order(l); !slices.Equal(got, want) {
				t.Errorf("Order(%v) is %v", l, got)
			}
			draw.Shuffle(n, func(i, j int) { l[i], l[j] = l[j], l[i] })
			if got := impl.Order(l); !slices.Equal(got, want) {
				t.Errorf("Order(%v), the same in another order, is %v", l, got)
			}
		}
	}
	for name, l := range wrongQueues() {
		if got := impl.Order(l); len(got) != 0 {
			t.Errorf("%s: Order is %v", name, got)
		}
	}
}

func TestOrderByHand(t *testing.T) {
	for _, c := range []struct {
		ids, prios, want []int
	}{
		{nil, nil, nil},
		{[]int{5}, []int{0}, []int{5}},
		{[]int{1, 2}, []int{0, 1}, []int{2, 1}},
		{[]int{1, 2}, []int{1, 0}, []int{1, 2}},
		{[]int{2, 1}, []int{7, 7}, []int{1, 2}},
		{[]int{1, 2}, []int{7, 7}, []int{1, 2}},
		{[]int{999, 998, 1}, []int{999, 999, 998}, []int{998, 999, 1}},
		{[]int{10, 9, 100}, []int{10, 9, 100}, []int{100, 10, 9}},
		{[]int{3, 1, 2, 6, 5, 4}, []int{1, 0, 1, 0, 2, 1}, []int{5, 2, 3, 4, 1, 6}},
	} {
		var l []impl.Job
		for i, id := range c.ids {
			l = append(l, impl.Job{Id: id, Prio: c.prios[i], Nodes: 1, Wall: 1})
		}
		var got []int
		for _, j := range impl.Order(l) {
			got = append(got, j.Id)
		}
		if !slices.Equal(got, c.want) {
			t.Errorf("Order of %v with the Prios %v is %v", c.ids, c.prios, got)
		}
	}
}

func TestPlan(t *testing.T) {
	none, begun, later := 0, 0, 0
	for _, c := range drawnPlans(22) {
		want, wantLater := planOf(c.r, c.now, c.l, c.depth)
		a, b, ok := impl.Plan(c.r, c.now, c.l, c.depth)
		if !ok || !sameHeld(a, want) || !sameHeld(b, wantLater) {
			t.Errorf("Plan(%v, %d, %+v, %d) is %s, not %s", c.r, c.now, c.l, c.depth, planText(a, b, ok), planText(want, wantLater, true))
		}
		begun, later, none = begun+len(a), later+len(b), none+len(c.l)-len(a)-len(b)
	}
	if begun < 300 || later < 300 || none < 300 {
		t.Errorf("%d start, %d are reserved, %d neither: too few to tell", begun, later, none)
	}
}

// byRank has what Plan tells in the order of the queue.
func byRank(l []impl.Job, starts, later []impl.Held) []impl.Held {
	var all []impl.Held
	for _, j := range ranked(l) {
		for _, h := range slices.Concat(starts, later) {
			if h.Id == j.Id {
				all = append(all, h)
			}
		}
	}
	return all
}

func jobWithId(l []impl.Job, id int) impl.Job {
	for _, j := range l {
		if j.Id == id {
			return j
		}
	}
	return impl.Job{}
}

func TestPlansFitTheRoom(t *testing.T) {
	for _, c := range drawnPlans(23) {
		starts, later, ok := impl.Plan(c.r, c.now, c.l, c.depth)
		tells := fmt.Sprintf("Plan(%v, %d, %+v, %d) is %s", c.r, c.now, c.l, c.depth, planText(starts, later, ok))
		all := byRank(c.l, starts, later)
		if !ok || len(all) != len(starts)+len(later) {
			t.Fatal(tells)
		}
		left := c.r
		for _, h := range all {
			q, ok := impl.Reserve(left, jobWithId(c.l, h.Id), h.At, h.Nodes)
			if !ok {
				t.Fatalf("%s, but there is no room for %d", tells, h.Id)
			}
			left = q
		}
		for name, l := range map[string][]impl.Held{"all": all, "the starts": starts, "the reservations": later, "the starts and the reservations": slices.Concat(starts, later)} {
			if !impl.Kept(c.r, c.l, l) {
				t.Errorf("%s, but %s are not kept", tells, name)
			}
		}
		if len(later) > c.depth {
			t.Errorf("%s, more than %d reservations", tells, c.depth)
		}
		for i, h := range slices.Concat(starts, later) {
			if (h.At == c.now) != (i < len(starts)) || h.At < c.now {
				t.Errorf("%s, but %d is at %d", tells, h.Id, h.At)
			}
			down := slices.ContainsFunc(h.Nodes, func(n int) bool { return !c.r.Up[n] })
			if down || !slices.IsSorted(h.Nodes) || impl.Level(c.r.Topo, impl.Lowest(c.r.Topo, h.Nodes)) > jobWithId(c.l, h.Id).Level {
				t.Errorf("%s, but %d can't have these nodes", tells, h.Id)
			}
		}
		inRank(t, tells, c.l, starts)
		inRank(t, tells, c.l, later)
	}
}

// inRank asks whether the list is in the order of the queue, none of it twice.
func inRank(t *testing.T, tells string, l []impl.Job, held []impl.Held) {
	t.Helper()
	if !sameHeld(byRank(l, held, nil), held) {
		t.Errorf("%s, which isn't in the order of rank", tells)
	}
}

// without leaves the job out of what is held.
func without(held []impl.Held, id int) []impl.Held {
	return slices.DeleteFunc(heldCopy(held), func(h impl.Held) bool { return h.Id == id })
}

func TestALowerJobChangesNothing(t *testing.T) {
	draw := rand.New(rand.NewSource(24))
	told := 0
	for _, c := range drawnPlans(25) {
		for i := range c.l {
			c.l[i].Prio++
		}
		starts, later, ok := impl.Plan(c.r, c.now, c.l, c.depth)
		if !ok {
			t.Fatalf("Plan(%v, %d, %v, %d) is false", c.r, c.now, c.l, c.depth)
		}
		for range 4 {
			low := drawnJob(draw)
			low.Prio = 0
			for jobWithId(c.l, low.Id).Id > 0 {
				low.Id = 1 + low.Id%999
			}
			more := slices.Insert(slices.Clone(c.l), draw.Intn(len(c.l)+1), low)
			a, b, ok := impl.Plan(c.r, c.now, more, c.depth)
			if !ok || !sameHeld(without(a, low.Id), starts) || !sameHeld(without(b, low.Id), later) {
				t.Errorf("Plan(%v, %d, %+v, %d) is %s, but without %d it is %s", c.r, c.now, more, c.depth, planText(a, b, ok), low.Id, planText(starts, later, true))
			}
			told += len(a) + len(b) - len(starts) - len(later)
		}
	}
	if told < 200 {
		t.Errorf("of the lower jobs %d are told: too few to tell", told)
	}
}

// A job's rank is its Prio and its Id: the last of all in rank may be left out, whatever its Prio is.
func TestTheLastInRankChangesNothing(t *testing.T) {
	for _, c := range drawnPlans(26) {
		l := ranked(c.l)
		for len(l) > 0 {
			a, b, ok := impl.Plan(c.r, c.now, l, c.depth)
			last := l[len(l)-1]
			l = l[:len(l)-1]
			starts, later, also := impl.Plan(c.r, c.now, l, c.depth)
			if !ok || !also || !sameHeld(without(a, last.Id), starts) || !sameHeld(without(b, last.Id), later) {
				t.Errorf("in %v at %d with %d: Plan is %s, without %d %s", c.r, c.now, c.depth, planText(a, b, ok), last.Id, planText(starts, later, also))
			}
		}
	}
}

func TestTheFirstThatCanStartStarts(t *testing.T) {
	can := 0
	for _, c := range drawnPlans(27) {
		order := impl.Order(c.l)
		if len(order) == 0 {
			continue
		}
		starts, later, ok := impl.Plan(c.r, c.now, c.l, c.depth)
		when, nodes, goes := impl.Earliest(c.r, order[0], c.now)
		if !goes || when > c.now {
			continue
		}
		can++
		if !ok || len(starts) == 0 || !sameHeld(starts[:1], []impl.Held{{Id: order[0].Id, At: c.now, Nodes: nodes}}) {
			t.Errorf("Plan(%v, %d, %v, %d) is %s, but %d can start on %v", c.r, c.now, c.l, c.depth, planText(starts, later, ok), order[0].Id, nodes)
		}
	}
	if can < 200 {
		t.Errorf("%d can start: too few to tell", can)
	}
}

func TestPlanDoesNotHangOnTheOrderOfTheQueue(t *testing.T) {
	draw := rand.New(rand.NewSource(28))
	for _, c := range drawnPlans(29) {
		a, b, ok := impl.Plan(c.r, c.now, c.l, c.depth)
		l := slices.Clone(c.l)
		draw.Shuffle(len(l), func(i, j int) { l[i], l[j] = l[j], l[i] })
		x, y, also := impl.Plan(c.r, c.now, l, c.depth)
		if !ok || !also || !sameHeld(a, x) || !sameHeld(b, y) {
			t.Errorf("Plan of %v is %s, of %v %s", c.l, planText(a, b, ok), l, planText(x, y, also))
		}
	}
}

// planJob asks for 3 of the 4 cores of each node, so that no two of them share one.
func planJob(id, prio, nodes, wall, level int) impl.Job {
	return impl.Job{Id: id, Prio: prio, Nodes: nodes, Need: vec(3, 0, 0), Wall: wall, Level: level}
}

func withLic(j impl.Job, lic impl.Vec) impl.Job {
	j.Lic = lic
	return j
}

func TestPlanByHand(t *testing.T) {
	free := pts(at(0, 4, 4, 4))
	full := pts(at(0, 0, 0, 0))
	from := func(t int) impl.Prof { return pts(at(0, 0, 0, 0), at(t, 4, 4, 4)) }
	room := func() impl.Room { return withProfs(free) }
	one := func(profs ...impl.Prof) impl.Room { return downAt(withProfs(free, profs...), 1, 2) }
	end := impl.MaxTime
	// big needs all nodes; two needs those of a leaf.
	big, two := planJob(1, 9, 3, 10, 1), planJob(2, 8, 2, 10, 0)
	for name, c := range map[string]struct {
		r     impl.Room
		now   int
		l     []impl.Job
		depth int
		want  string
	}{
		"an empty queue": {room(), 0, nil, 1, "|"},
		"an empty queue, a list without elements":     {room(), 5, []impl.Job{}, 60, "|"},
		"an empty queue at the end":                   {room(), end, nil, 0, "|"},
		"no nodes":                                    {roomWith(impl.Topo{Parents: wide(3)}, vec(1, 1, 1), vec(1, 1, 1)), 0, []impl.Job{big, two}, 5, "|"},
		"one starts":                                  {room(), 7, []impl.Job{two}, 0, "2@7[0 1]|"},
		"two start":                                   {room(), 7, []impl.Job{planJob(3, 0, 1, 5, 0), two}, 0, "2@7[0 1] 3@7[2]|"},
		"the first by Prio has it all":                {room(), 0, []impl.Job{two, big}, 1, "1@0[0 1 2]|2@10[0 1]"},
		"the first by Id has it all":                  {room(), 0, []impl.Job{planJob(6, 4, 3, 10, 1), planJob(5, 4, 3, 10, 1)}, 1, "5@0[0 1 2]|6@10[0 1 2]"},
		"a greater Prio though a greater Id":          {room(), 0, []impl.Job{planJob(5, 4, 3, 10, 1), planJob(6, 5, 3, 10, 1)}, 1, "6@0[0 1 2]|5@10[0 1 2]"},
		"no reservations":                             {room(), 0, []impl.Job{two, big}, 0, "1@0[0 1 2]|"},
		"one behind the other":                        {room(), 0, []impl.Job{big, planJob(2, 8, 3, 20, 1), planJob(3, 7, 3, 5, 1), planJob(4, 6, 3, 1, 1)}, 60, "1@0[0 1 2]|2@10[0 1 2] 3@30[0 1 2] 4@35[0 1 2]"},
		"one behind the other, as many as depth":      {room(), 0, []impl.Job{big, planJob(2, 8, 3, 20, 1), planJob(3, 7, 3, 5, 1), planJob(4, 6, 3, 1, 1)}, 2, "1@0[0 1 2]|2@10[0 1 2] 3@30[0 1 2]"},
		"at depth 0 what comes later gets none":       {one(), 0, []impl.Job{planJob(1, 9, 1, 10, 0), planJob(2, 8, 1, 10, 0)}, 0, "1@0[0]|"},
		"ahead of a reservation":                      {withProfs(free, from(10), from(10), free), 0, []impl.Job{two, planJob(3, 0, 1, 5, 0)}, 1, "3@0[2]|2@10[0 1]"},
		"up to a reservation":                         {withProfs(free, from(10), free, full), 0, []impl.Job{two, planJob(3, 0, 1, 10, 0)}, 1, "3@0[1]|2@10[0 1]"},
		"one too long for it":                         {withProfs(free, from(10), free, full), 0, []impl.Job{two, planJob(3, 0, 1, 11, 0)}, 1, "|2@10[0 1]"},
		"one too long for it, reserved behind":        {withProfs(free, from(10), free, full), 0, []impl.Job{two, planJob(3, 0, 1, 11, 0)}, 2, "|2@10[0 1] 3@20[0]"},
		"too long, but without a reservation":         {withProfs(free, from(10), free, full), 0, []impl.Job{two, planJob(3, 0, 1, 11, 0)}, 0, "3@0[1]|"},
		"behind one that gets none one still starts":  {withProfs(free, from(10), free, full), 0, []impl.Job{two, planJob(3, 7, 2, 10, 0), planJob(4, 6, 1, 10, 0)}, 1, "4@0[1]|2@10[0 1]"},
		"two that get none, two still start":          {withProfs(free, from(10), free, free), 0, []impl.Job{two, planJob(3, 7, 2, 10, 0), planJob(4, 6, 1, 10, 0), planJob(5, 5, 3, 1, 1), planJob(6, 4, 1, 3, 1)}, 1, "4@0[1] 6@0[2]|2@10[0 1]"},
		"a reservation that gets none touches none":   {withProfs(free, from(10), free, full), 0, []impl.Job{two, planJob(3, 7, 2, 10, 0), planJob(4, 6, 1, 10, 0), planJob(5, 5, 1, 3, 0)}, 1, "4@0[1]|2@10[0 1]"},
		"a start in the midst of the rank":            {withProfs(free, from(10), free, free), 0, []impl.Job{two, planJob(3, 7, 1, 20, 0), planJob(4, 6, 3, 10, 1)}, 5, "3@0[2]|2@10[0 1] 4@20[0 1 2]"},
		"one that never comes":                        {room(), 0, []impl.Job{planJob(1, 9, 4, 10, 1), two}, 1, "2@0[0 1]|"},
		"one that never comes takes no reservation":   {room(), 0, []impl.Job{big, planJob(2, 8, 3, 10, 0), planJob(3, 7, 3, 10, 1)}, 1, "1@0[0 1 2]|3@10[0 1 2]"},
		"none ever comes":                             {withProfs(full), 0, []impl.Job{withLic(big, vec(1, 0, 0)), withLic(two, vec(0, 0, 1))}, 9, "|"},
		"all are down":                                {downAt(room(), 0, 1, 2), 0, []impl.Job{big, two}, 9, "|"},
		"one is down":                                 {downAt(room(), 1), 0, []impl.Job{big, two, planJob(3, 0, 2, 5, 1)}, 9, "3@0[0 2]|"},
		"just up to the end":                          {room(), end - 10, []impl.Job{big, two}, 9, "1@999999990[0 1 2]|"},
		"one beyond the end":                          {room(), end - 9, []impl.Job{big, planJob(3, 0, 1, 9, 0)}, 9, "3@999999991[2]|"},
		"a reservation just up to the end":            {room(), end - 20, []impl.Job{big, two, planJob(3, 0, 2, 11, 0)}, 9, "1@999999980[0 1 2]|2@999999990[0 1]"},
		"at the end nothing starts":                   {room(), end, []impl.Job{big, two, planJob(3, 0, 1, 1, 0)}, 60, "|"},
		"one ahead of the end":                        {room(), end - 1, []impl.Job{big, planJob(3, 0, 1, 1, 0)}, 60, "3@999999999[2]|"},
		"room that comes free before now":             {one(from(10)), 10, []impl.Job{planJob(1, 0, 1, 5, 0)}, 1, "1@10[0]|"},
		"room that comes free just behind now":        {one(from(10)), 9, []impl.Job{planJob(1, 0, 1, 5, 0)}, 1, "|1@10[0]"},
		"room that comes free just behind, depth 0":   {one(from(10)), 9, []impl.Job{planJob(1, 0, 1, 5, 0)}, 0, "|"},
		"a licence each":                              {room(), 0, []impl.Job{withLic(planJob(1, 2, 1, 10, 0), vec(3, 0, 0)), withLic(planJob(2, 1, 1, 5, 0), vec(2, 0, 0)), withLic(planJob(3, 0, 1, 5, 0), vec(1, 0, 0))}, 1, "1@0[2] 3@0[0]|2@10[2]"},
		"licences that are reserved":                  {room(), 0, []impl.Job{withLic(planJob(1, 2, 1, 10, 0), vec(0, 3, 0)), withLic(planJob(2, 1, 1, 5, 0), vec(0, 4, 0)), withLic(planJob(3, 0, 1, 11, 0), vec(0, 1, 0))}, 1, "1@0[2]|2@10[2]"},
		"licences that are not":                       {room(), 0, []impl.Job{withLic(planJob(1, 2, 1, 10, 0), vec(0, 3, 0)), withLic(planJob(2, 1, 1, 5, 0), vec(0, 4, 0)), withLic(planJob(3, 0, 1, 10, 0), vec(0, 1, 0))}, 1, "1@0[2] 3@0[0]|2@10[2]"},
		"nothing is needed":                           {withProfs(full, full, full, full), 3, []impl.Job{{Id: 1, Nodes: 3, Wall: 5, Level: 1}, {Id: 2, Nodes: 3, Wall: 5, Level: 1}}, 0, "1@3[0 1 2] 2@3[0 1 2]|"},
		"depth -1":                                    {room(), 0, []impl.Job{two}, -1, "false"},
		"depth 60":                                    {room(), 0, []impl.Job{two}, 60, "2@0[0 1]|"},
		"depth 61":                                    {room(), 0, []impl.Job{two}, 61, "false"},
		"depth -1, an empty queue":                    {room(), 0, nil, -1, "false"},
		"depth 61, an empty queue":                    {room(), 0, nil, 61, "false"},
		"the least depth":                             {room(), 0, []impl.Job{two}, math.MinInt, "false"},
		"the greatest depth":                          {room(), 0, []impl.Job{two}, math.MaxInt, "false"},
		"now -1":                                      {room(), -1, []impl.Job{two}, 1, "false"},
		"now one beyond the end":                      {room(), end + 1, []impl.Job{two}, 1, "false"},
		"now -1, an empty queue":                      {room(), -1, nil, 1, "false"},
		"now one beyond the end, an empty queue":      {room(), end + 1, nil, 1, "false"},
		"two with one Id":                             {room(), 0, []impl.Job{two, two}, 1, "false"},
		"two with one Id, all else different":         {room(), 0, []impl.Job{two, planJob(2, 0, 1, 5, 1)}, 1, "false"},
		"one that isn't right behind one that starts": {room(), 0, []impl.Job{two, planJob(3, 0, 1, 0, 1)}, 1, "false"},
	} {
		if got := planText(impl.Plan(c.r, c.now, c.l, c.depth)); got != c.want {
			t.Errorf("%s: Plan is %s, not %s", name, got, c.want)
		}
	}
}

func TestPlanOfTheGreatestQueue(t *testing.T) {
	r := roomWith(withNodes(wide(24), 24), vec(4, 4, 4), vec(4, 4, 4))
	var l []impl.Job
	for i := range 60 {
		l = append(l, impl.Job{Id: 999 - i, Prio: 940 + i, Nodes: 24, Need: vec(3, 0, 0), Wall: impl.MaxWall, Level: 1})
	}
	for _, depth := range []int{0, 1, 2, 30, 58, 59, 60} {
		starts, later, ok := impl.Plan(r, 0, l, depth)
		if !ok || !sameHeld(starts, []impl.Held{{Id: 940, Nodes: upTo(23)}}) || len(later) != min(depth, 59) {
			t.Fatalf("depth %d: Plan is %s", depth, planText(starts, later, ok))
		}
		for i, h := range later {
			if h.Id != 941+i || h.At != (i+1)*impl.MaxWall || !slices.Equal(h.Nodes, upTo(23)) {
				t.Errorf("depth %d: the reservation %d is %v", depth, i, h)
			}
		}
	}
	if got := planText(impl.Plan(r, 0, append(l, planJob(1, 0, 1, 1, 0)), 60)); got != "false" {
		t.Errorf("61 jobs: Plan is %s", got)
	}
	// Two of them would end beyond MaxTime.
	starts, later, ok := impl.Plan(r, impl.MaxTime-58*impl.MaxWall, l, 60)
	if !ok || len(starts) != 1 || len(later) != 57 || later[56].At != impl.MaxTime-impl.MaxWall {
		t.Errorf("near the end: Plan is %s", planText(starts, later, ok))
	}
}

func TestPlanInTheFullestRoom(t *testing.T) {
	l := fullQueue(60)
	for i := range l {
		l[i].Nodes, l[i].Level, l[i].Need, l[i].Wall = 1+i%24, 2, vec(4+i%7, 0, 0), 701+10*i
	}
	// None of them ends where a node has a point, and no node has a point to spare.
	if got := planText(impl.Plan(fullRoom(), 0, l, 60)); got != "|" {
		t.Errorf("Plan is %s", got)
	}
	// Here each node has two points to spare for each of them.
	r := fullRoom()
	for n := range r.Profs {
		r.Profs[n].Pts = r.Profs[n].Pts[:80]
	}
	starts, later, ok := impl.Plan(r, 0, l, 60)
	if !ok || len(starts)+len(later) != 60 || !impl.Kept(r, l, byRank(l, starts, later)) {
		t.Errorf("Plan is %s", planText(starts, later, ok))
	}
}

// Here the licences have as many points as there may be, 10 apart: what begins or ends between them can't be reserved.
func TestPlanWhereReserveSaysFalse(t *testing.T) {
	most, lic := steps(200, 10), vec(0, 1, 0)
	full := pts(at(0, 0, 0, 0))
	from := func(t int) impl.Prof { return pts(at(0, 0, 0, 0), at(t, 4, 4, 4)) }
	first, second := withLic(planJob(1, 9, 1, 3, 0), lic), planJob(2, 8, 1, 20, 0)
	for name, c := range map[string]struct {
		r     impl.Room
		now   int
		l     []impl.Job
		depth int
		want  string
	}{
		"it doesn't start":                         {withProfs(most, full, full), 5, []impl.Job{first}, 1, "|"},
		"its nodes are left to the next":           {withProfs(most, full, full), 5, []impl.Job{first, second}, 1, "2@5[2]|"},
		"it gets no reservation":                   {withProfs(most, full, full, from(25)), 5, []impl.Job{first}, 1, "|"},
		"its reservation is left to the next":      {withProfs(most, full, full, from(25)), 5, []impl.Job{first, second}, 1, "|2@25[2]"},
		"one that ends where there is a point":     {withProfs(most, full, full), 30, []impl.Job{withLic(planJob(1, 9, 1, 10, 0), lic), second}, 1, "1@30[2]|2@40[2]"},
		"one that ends between two":                {withProfs(most, full, full), 30, []impl.Job{withLic(planJob(1, 9, 1, 11, 0), lic), second}, 1, "2@30[2]|"},
		"a node that has the points, not licences": {withProfs(pts(at(0, 4, 4, 4)), full, full, most), 5, []impl.Job{planJob(1, 9, 1, 3, 0), planJob(2, 8, 1, 15, 0)}, 1, "|"},
	} {
		if got := planText(impl.Plan(c.r, c.now, c.l, c.depth)); got != c.want {
			t.Errorf("%s: Plan is %s, not %s", name, got, c.want)
		}
	}
	if _, _, ok := impl.Earliest(withProfs(most, full, full), first, 5); !ok {
		t.Error("Earliest finds no time")
	}
}

func TestPlanOfWrongArguments(t *testing.T) {
	right, l := roomWith(twoLeaves(), vec(4, 4, 4), vec(4, 4, 4)), []impl.Job{planJob(1, 1, 1, 1, 1), planJob(2, 0, 3, 5, 1)}
	refused := func(name string, r impl.Room, now int, l []impl.Job, depth int) {
		t.Helper()
		if got := planText(impl.Plan(r, now, l, depth)); got != "false" {
			t.Errorf("%s: Plan is %s", name, got)
		}
	}
	for name, r := range wrongRooms() {
		refused(name, r, 0, l, 1)
		refused(name, r, 0, nil, 0)
	}
	for name, queue := range wrongQueues() {
		refused(name, right, 0, queue, 1)
		refused(name, right, impl.MaxTime, queue, 0)
	}
	for _, now := range noTimes {
		refused(fmt.Sprint("now ", now), right, now, l, 1)
		refused(fmt.Sprint("now ", now), right, now, nil, 1)
	}
	for depth := -70; depth < 130; depth++ {
		if _, _, ok := impl.Plan(right, 0, l, depth); ok != (depth >= 0 && depth <= 60) {
			t.Errorf("depth %d: Plan is %v", depth, ok)
		}
	}
	for _, depth := range edges {
		if depth < 0 || depth > 60 {
			refused(fmt.Sprint("depth ", depth), right, 0, l, depth)
			refused(fmt.Sprint("depth ", depth), right, 0, nil, depth)
		}
	}
}

// keptOf reserves one after the other, without the program's places.
func keptOf(r impl.Room, l []impl.Job, held []impl.Held) bool {
	if !roomRight(r) || !queueRight(l) {
		return false
	}
	seen := map[int]int{}
	for _, h := range held {
		seen[h.Id]++
		j := jobWithId(l, h.Id)
		left, ok := movedRoom(r, j, h.At, h.At+j.Wall, h.Nodes, takenFrom)
		if !ok || seen[h.Id] > 1 {
			return false
		}
		r = left
	}
	return true
}

// changedHeld is what is held with one thing drawn anew.
func changedHeld(draw *rand.Rand, held []impl.Held, nodes int) []impl.Held {
	l := heldCopy(held)
	if len(l) == 0 {
		return l
	}
	h := &l[draw.Intn(len(l))]
	switch draw.Intn(6) {
	case 0:
		h.At += draw.Intn(5) - 2
	case 1:
		h.Id = 1 + draw.Intn(999)
	case 2:
		h.Id = l[draw.Intn(len(l))].Id
	case 3:
		h.Nodes = drawnNodes(draw, nodes, len(h.Nodes))
	case 4:
		h.Nodes[draw.Intn(len(h.Nodes))] = draw.Intn(nodes+2) - 1
	case 5:
		h.Nodes = drawnNodes(draw, nodes, draw.Intn(nodes+1))
	}
	return l
}

func TestKept(t *testing.T) {
	draw := rand.New(rand.NewSource(30))
	kept, not := 0, 0
	for _, c := range drawnPlans(31) {
		starts, later, _ := impl.Plan(c.r, c.now, c.l, c.depth)
		told := byRank(c.l, starts, later)
		for range 12 {
			held := changedHeld(draw, told, len(c.r.Topo.Nodes))
			draw.Shuffle(len(held), func(i, j int) { held[i], held[j] = held[j], held[i] })
			got := impl.Kept(c.r, c.l, held)
			if got != keptOf(c.r, c.l, held) {
				t.Errorf("Kept(%v, %+v, %v) is %v", c.r, c.l, held, got)
			}
			if got {
				kept++
			} else {
				not++
			}
		}
	}
	if kept < 1000 || not < 1000 {
		t.Errorf("%d are kept, %d not: too few to tell", kept, not)
	}
}

func hold(id, at int, nodes ...int) impl.Held { return impl.Held{Id: id, At: at, Nodes: nodes} }

func TestKeptByHand(t *testing.T) {
	r := downAt(withProfs(pts(at(0, 4, 4, 4)), pts(at(0, 4, 4, 4), at(50, 0, 0, 0))), 2)
	l := []impl.Job{planJob(1, 1, 2, 10, 0), planJob(2, 0, 1, 5, 0), withLic(planJob(3, 9, 1, 10, 0), vec(3, 0, 0)), withLic(planJob(4, 9, 1, 10, 0), vec(2, 0, 0))}
	end := impl.MaxTime
	for name, c := range map[string]struct {
		held []impl.Held
		want bool
	}{
		"none":                                  {nil, true},
		"none, a list without elements":         {[]impl.Held{}, true},
		"one":                                   {[]impl.Held{hold(1, 0, 0, 1)}, true},
		"nodes in any order":                    {[]impl.Held{hold(1, 0, 1, 0)}, true},
		"a level that isn't asked":              {[]impl.Held{hold(1, 0, 0, 2)}, true},
		"a node that is down":                   {[]impl.Held{hold(2, 0, 2)}, true},
		"one behind the other":                  {[]impl.Held{hold(1, 0, 0, 1), hold(2, 10, 0)}, true},
		"the other way round":                   {[]impl.Held{hold(2, 10, 0), hold(1, 0, 0, 1)}, true},
		"one ahead of the other":                {[]impl.Held{hold(1, 5, 0, 1), hold(2, 0, 0)}, true},
		"beside the other":                      {[]impl.Held{hold(1, 0, 0, 1), hold(2, 0, 2)}, true},
		"one too soon":                          {[]impl.Held{hold(1, 0, 0, 1), hold(2, 9, 0)}, false},
		"one too long":                          {[]impl.Held{hold(1, 4, 0, 1), hold(2, 0, 0)}, false},
		"at the same time":                      {[]impl.Held{hold(1, 0, 0, 1), hold(2, 0, 1)}, false},
		"up to where it is full":                {[]impl.Held{hold(1, 40, 0, 1)}, true},
		"beyond it":                             {[]impl.Held{hold(1, 41, 0, 1)}, false},
		"beyond it, on the others":              {[]impl.Held{hold(1, 41, 2, 1)}, true},
		"an Id twice":                           {[]impl.Held{hold(2, 0, 0), hold(2, 10, 1)}, false},
		"an Id twice, with one between":         {[]impl.Held{hold(2, 0, 0), hold(1, 20, 0, 1), hold(2, 10, 1)}, false},
		"one and the same twice":                {[]impl.Held{hold(2, 0, 0), hold(2, 0, 0)}, false},
		"no such job":                           {[]impl.Held{hold(5, 0, 0)}, false},
		"no such job behind others":             {[]impl.Held{hold(1, 0, 0, 1), hold(2, 10, 0), hold(5, 30, 0)}, false},
		"the Id 0":                              {[]impl.Held{hold(0, 0, 0)}, false},
		"nothing":                               {[]impl.Held{{}}, false},
		"an Id below 0":                         {[]impl.Held{hold(-1, 0, 0)}, false},
		"the greatest Id":                       {[]impl.Held{hold(math.MaxInt, 0, 0)}, false},
		"too few nodes":                         {[]impl.Held{hold(1, 0, 0)}, false},
		"too many nodes":                        {[]impl.Held{hold(1, 0, 0, 1, 2)}, false},
		"no nodes":                              {[]impl.Held{hold(1, 0)}, false},
		"a node twice":                          {[]impl.Held{hold(1, 0, 1, 1)}, false},
		"the node -1":                           {[]impl.Held{hold(1, 0, -1, 1)}, false},
		"the node 3":                            {[]impl.Held{hold(1, 0, 1, 3)}, false},
		"the greatest node":                     {[]impl.Held{hold(2, 0, math.MaxInt)}, false},
		"at -1":                                 {[]impl.Held{hold(2, -1, 1)}, false},
		"just up to the end":                    {[]impl.Held{hold(2, end-5, 1)}, true},
		"one beyond the end":                    {[]impl.Held{hold(2, end-4, 1)}, false},
		"at the end":                            {[]impl.Held{hold(2, end, 1)}, false},
		"at the greatest":                       {[]impl.Held{hold(2, math.MaxInt, 1)}, false},
		"at the least":                          {[]impl.Held{hold(2, math.MinInt, 1)}, false},
		"licences one behind the other":         {[]impl.Held{hold(3, 0, 0), hold(4, 10, 1)}, true},
		"too many licences at once":             {[]impl.Held{hold(3, 0, 0), hold(4, 9, 1)}, false},
		"the job of the Id, not that of a rank": {[]impl.Held{hold(4, 0, 0), hold(2, 0, 1)}, true},
		"all four":                              {[]impl.Held{hold(3, 0, 0), hold(1, 10, 0, 1), hold(4, 10, 2), hold(2, 20, 1)}, true},
		"all four, the last doesn't fit":        {[]impl.Held{hold(3, 0, 0), hold(1, 10, 0, 1), hold(4, 10, 2), hold(2, 19, 1)}, false},
	} {
		if got := impl.Kept(r, l, c.held); got != c.want || got != keptOf(r, l, c.held) {
			t.Errorf("%s: Kept is %v", name, got)
		}
	}
}

func TestKeptOfWrongArguments(t *testing.T) {
	right, l := roomWith(twoLeaves(), vec(4, 4, 4), vec(4, 4, 4)), []impl.Job{planJob(1, 1, 1, 1, 1)}
	one := []impl.Held{{Id: 1, At: 0, Nodes: []int{0}}}
	if !impl.Kept(right, l, one) || !impl.Kept(right, l, nil) || !impl.Kept(right, nil, nil) || impl.Kept(right, nil, one) {
		t.Error("Kept of right arguments")
	}
	for name, r := range wrongRooms() {
		if impl.Kept(r, l, one) || impl.Kept(r, l, nil) || impl.Kept(r, nil, nil) {
			t.Errorf("%s: Kept is true", name)
		}
	}
	for name, queue := range wrongQueues() {
		if impl.Kept(right, queue, one) || impl.Kept(right, queue, nil) {
			t.Errorf("%s: Kept is true", name)
		}
	}
	for _, when := range noTimes {
		if impl.Kept(right, l, []impl.Held{{Id: 1, At: when, Nodes: []int{0}}}) {
			t.Errorf("at %d: Kept is true", when)
		}
	}
	for _, nodes := range noNodes(3) {
		j := l[0]
		j.Nodes = len(nodes)
		if impl.Kept(right, []impl.Job{j}, []impl.Held{{Id: 1, Nodes: nodes}}) {
			t.Errorf("on %v: Kept is true", nodes)
		}
	}
	if impl.Kept(right, l, make([]impl.Held, 100000)) || impl.Kept(right, l, []impl.Held{{Id: 1, Nodes: make([]int, 100000)}}) {
		t.Error("very many: Kept is true")
	}
}

func TestKeptOfTheGreatestQueue(t *testing.T) {
	r := roomWith(withNodes(wide(24), 24), vec(4, 4, 4), vec(4, 4, 4))
	l := fullQueue(60)
	var held []impl.Held
	for i := range l {
		l[i].Nodes, l[i].Need = 24, vec(4, 4, 4)
		held = append(held, impl.Held{Id: i + 1, At: 10 * ((i * 7) % 60), Nodes: upTo(23)})
	}
	if !impl.Kept(r, l, held) {
		t.Error("60 one behind the other are not kept")
	}
	for i := range held {
		q := heldCopy(held)
		q[i].At++
		if impl.Kept(r, l, q) != (held[i].At == 590) {
			t.Errorf("with %d one later", i+1)
		}
	}
	if more := append(heldCopy(held), impl.Held{Id: 1, At: 1000, Nodes: upTo(23)}); impl.Kept(r, l, more) {
		t.Error("61 are kept")
	}
}

// Where all fits, but with more points in between than there may be.
func TestKeptWhereThereAreTooManyPoints(t *testing.T) {
	r := withProfs(pts(at(0, 4, 4, 4)), steps(200, 10))
	for when, want := range map[int]bool{0: true, 5: false, 30: true, 31: false} {
		l := []impl.Job{planJob(1, 0, 1, 10, 0)}
		l[0].Need = vec(0, 1, 0)
		if got := impl.Kept(r, l, []impl.Held{{Id: 1, At: when, Nodes: []int{0}}}); got != want {
			t.Errorf("at %d: Kept is %v", when, got)
		}
	}
}

// planLists has for each list of an answer what writes all over it, up to its capacity; the lists of nodes first.
func planLists(starts, later []impl.Held) []func() {
	var l []func()
	for _, h := range slices.Concat(starts, later) {
		l = append(l, func() { writeOver(h.Nodes, -7) })
	}
	return append(l, func() { writeOver(starts, impl.Held{Id: -7}) }, func() { writeOver(later, impl.Held{Id: -7}) })
}

func TestQueuesAreLeftAlone(t *testing.T) {
	for _, c := range drawnPlans(32) {
		r, l := shared(c.r), withRoomBehind(c.l, impl.Job{Id: -3})
		keptRoom, kept := roomCopy(wholeRoom(r)), slices.Clone(l[:cap(l)])
		writeOver(impl.Order(l), impl.Job{Id: -7})
		impl.QueueOk(l)
		starts, later, _ := impl.Plan(r, c.now, l, c.depth)
		held := withRoomBehind(byRank(l, starts, later), impl.Held{Id: -3})
		for i, h := range held {
			held[i].Nodes = withRoomBehind(h.Nodes, -3)
		}
		keptHeld := heldCopy(held[:cap(held)])
		impl.Kept(r, l, held)
		if !sameHeld(held[:cap(held)], keptHeld) || slices.ContainsFunc(held, func(h impl.Held) bool { return h.Nodes[:cap(h.Nodes)][len(h.Nodes)] != -3 }) {
			t.Errorf("%v has become %v", keptHeld, held[:cap(held)])
		}
		for _, write := range planLists(starts, later) {
			write()
		}
		if !slices.Equal(l[:cap(l)], kept) || !reflect.DeepEqual(wholeRoom(r), keptRoom) {
			t.Errorf("%v has become %v, or %v has become %v", kept, l[:cap(l)], keptRoom, wholeRoom(r))
		}
	}
}

func TestNoTwoListsOfAPlanShareMemory(t *testing.T) {
	lists := 0
	for _, c := range drawnPlans(33) {
		starts, later, _ := impl.Plan(c.r, c.now, c.l, c.depth)
		for i := range planLists(starts, later) {
			a, b, _ := impl.Plan(c.r, c.now, c.l, c.depth)
			x, y := heldCopy(a), heldCopy(b)
			planLists(a, b)[i]()
			// The same is written over in the copy, which shares nothing.
			planLists(x, y)[i]()
			if !sameHeld(a, x) || !sameHeld(b, y) {
				t.Errorf("Plan(%v, %d, %v, %d): its list %d shares memory with another", c.r, c.now, c.l, c.depth, i)
			}
			lists++
		}
	}
	if lists < 2000 {
		t.Errorf("%d lists: too few to tell", lists)
	}
}

func TestPlansAreKeptByNobody(t *testing.T) {
	for _, c := range drawnPlans(34) {
		a, b, _ := impl.Plan(c.r, c.now, c.l, c.depth)
		wantStarts, wantLater := heldCopy(a), heldCopy(b)
		order := impl.Order(c.l)
		wantOrder := slices.Clone(order)
		for _, write := range planLists(a, b) {
			write()
		}
		writeOver(order, impl.Job{Id: -7})
		a, b, ok := impl.Plan(c.r, c.now, c.l, c.depth)
		if !ok || !sameHeld(a, wantStarts) || !sameHeld(b, wantLater) || !slices.Equal(impl.Order(c.l), wantOrder) {
			t.Errorf("the answers for %v at %d with %v have changed", c.r, c.now, c.l)
		}
	}
}
