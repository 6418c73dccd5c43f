package tests

import (
	"fmt"
	"math"
	"math/rand"
	"reflect"
	"slices"
	"strings"
	"testing"

	"loop.example/g00454/impl"
)

// stateRoom is what the document says of RoomOf, with the numbers of the document.
func stateRoom(s impl.State) (impl.Room, bool) {
	if !topoRight(s.Topo) || len(s.Up) != len(s.Topo.Nodes) || !vecRight(s.Lic) || s.Now < 0 || s.Now > 1000000000 {
		return impl.Room{}, false
	}
	r := impl.Room{Topo: copyOf(s.Topo), Up: slices.Clone(s.Up), Lics: pts(impl.Pt{Free: s.Lic})}
	for _, n := range s.Topo.Nodes {
		r.Profs = append(r.Profs, pts(impl.Pt{Free: n.Cap}))
	}
	for _, run := range s.Runs {
		if !jobRight(run.Job) || run.At > s.Now || run.At+run.Job.Wall <= s.Now {
			return impl.Room{}, false
		}
		left, ok := movedRoom(r, run.Job, s.Now, run.At+run.Job.Wall, run.Nodes, takenFrom)
		if !ok {
			return impl.Room{}, false
		}
		r = left
	}
	return r, true
}

func stateRight(s impl.State) bool {
	_, right := stateRoom(s)
	if !right || s.Depth < 0 || s.Depth > 60 || len(s.Ends) > 300 || !queueRight(jobsOf(s)) {
		return false
	}
	c := chooserOf(s.Topo)
	for _, run := range s.Runs {
		right = right && slices.IsSorted(run.Nodes) && c.top(run.Nodes, len(run.Nodes), run.Job.Level) >= 0
		for _, n := range run.Nodes {
			right = right && s.Up[n]
		}
	}
	for _, e := range s.Ends {
		right = right && e.Id >= 1 && e.Id <= 999 && e.At >= 0 && e.At <= s.Now && e.Why >= 1 && e.Why <= 4
	}
	return right
}

func jobsOf(s impl.State) []impl.Job {
	l := slices.Clone(s.Queue)
	for _, run := range s.Runs {
		l = append(l, run.Job)
	}
	return l
}

func stateCopy(s impl.State) impl.State {
	q := s
	q.Topo, q.Up, q.Queue, q.Ends, q.Runs = copyOf(s.Topo), slices.Clone(s.Up), slices.Clone(s.Queue), slices.Clone(s.Ends), nil
	for _, run := range s.Runs {
		q.Runs = append(q.Runs, impl.Run{Job: run.Job, At: run.At, Nodes: slices.Clone(run.Nodes)})
	}
	return q
}

func sameRun(a, b impl.Run) bool {
	return a.Job == b.Job && a.At == b.At && slices.Equal(a.Nodes, b.Nodes)
}

// sameState takes a list without elements for the same as none.
func sameState(a, b impl.State) bool {
	return slices.Equal(a.Topo.Parents, b.Topo.Parents) && slices.Equal(a.Topo.Nodes, b.Topo.Nodes) && slices.Equal(a.Up, b.Up) &&
		a.Lic == b.Lic && a.Depth == b.Depth && a.Now == b.Now && slices.Equal(a.Queue, b.Queue) &&
		slices.EqualFunc(a.Runs, b.Runs, sameRun) && slices.Equal(a.Ends, b.Ends)
}

func noState(s impl.State) bool { return sameState(s, impl.State{}) }

// stateText is the time, what waits, what runs, what ended, and which nodes are down.
func stateText(s impl.State) string {
	words := []string{fmt.Sprint(s.Now, ":")}
	for _, j := range s.Queue {
		words = append(words, fmt.Sprint(j.Id))
	}
	words = append(words, "|")
	for _, run := range s.Runs {
		words = append(words, fmt.Sprintf("%d@%d%v", run.Job.Id, run.At, run.Nodes))
	}
	words = append(words, "|")
	for _, e := range s.Ends {
		words = append(words, fmt.Sprintf("%d@%d/%d", e.Id, e.At, e.Why))
	}
	words = append(words, "|")
	for n, up := range s.Up {
		if !up {
			words = append(words, fmt.Sprint(n))
		}
	}
	return strings.Join(words, " ")
}

// codeText is the state where the code is 0, else the code, and what is told beside it against the document.
func codeText(s impl.State, code int) string {
	if code == 0 {
		return stateText(s)
	}
	if !noState(s) {
		return fmt.Sprint("code ", code, " with ", stateText(s))
	}
	return fmt.Sprint("code ", code)
}

func untilText(s impl.State, ok bool) string {
	if ok {
		return stateText(s)
	}
	if !noState(s) {
		return "false with " + stateText(s)
	}
	return "false"
}

func startOf(s impl.State) impl.State {
	if !stateRight(s) {
		return impl.State{}
	}
	q := stateCopy(s)
	r, _ := stateRoom(s)
	starts, _ := planOf(r, s.Now, s.Queue, s.Depth)
	for _, h := range starts {
		q.Runs = append(q.Runs, impl.Run{Job: jobWithId(q.Queue, h.Id), At: q.Now, Nodes: h.Nodes})
		q.Queue = slices.DeleteFunc(q.Queue, func(j impl.Job) bool { return j.Id == h.Id })
	}
	return q
}

func nextEndOf(s impl.State) int {
	next := -1
	if !stateRight(s) {
		return next
	}
	for _, run := range s.Runs {
		if end := run.At + run.Job.Wall; next < 0 || end < next {
			next = end
		}
	}
	return next
}

// ended takes the runs out for which it goes, and tells their jobs.
func ended(s *impl.State, why int, goes func(impl.Run) bool) []impl.Job {
	var left []impl.Run
	var gone []impl.Job
	for _, run := range s.Runs {
		if !goes(run) {
			left = append(left, run)
			continue
		}
		gone = append(gone, run.Job)
		s.Ends = append(s.Ends, impl.End{Id: run.Job.Id, At: s.Now, Why: why})
	}
	s.Runs = left
	return gone
}

// untilOf lets one time after the other go by.
func untilOf(s impl.State, t int) (impl.State, bool) {
	if !stateRight(s) || t < s.Now || t > 1000000000 {
		return impl.State{}, false
	}
	q := stateCopy(s)
	for q.Now < t {
		q.Now++
		gone := ended(&q, 1, func(run impl.Run) bool { return run.At+run.Job.Wall == q.Now })
		if len(q.Ends) > 300 {
			return impl.State{}, false
		}
		if len(gone) > 0 {
			q = startOf(q)
		}
	}
	return q, true
}

func submitOf(s impl.State, j impl.Job) (impl.State, int) {
	if !stateRight(s) || !jobRight(j) {
		return impl.State{}, 1
	}
	if jobWithId(jobsOf(s), j.Id).Id > 0 {
		return impl.State{}, 2
	}
	if len(jobsOf(s)) == 60 {
		return impl.State{}, 3
	}
	empty := impl.State{Topo: s.Topo, Lic: s.Lic}
	for range s.Topo.Nodes {
		empty.Up = append(empty.Up, true)
	}
	r, _ := stateRoom(empty)
	if _, ok := placeOf(chooserOf(s.Topo), r, j, 0); !ok {
		return impl.State{}, 4
	}
	q := stateCopy(s)
	q.Queue = append(q.Queue, j)
	return startOf(q), 0
}

func finishOf(s impl.State, id, why int) (impl.State, int) {
	if !stateRight(s) || why != 2 && why != 3 {
		return impl.State{}, 1
	}
	q := stateCopy(s)
	gone := ended(&q, why, func(run impl.Run) bool { return run.Job.Id == id })
	if j := jobWithId(q.Queue, id); len(gone) == 0 && why == 3 && j.Id > 0 {
		q.Queue = slices.DeleteFunc(q.Queue, func(j impl.Job) bool { return j.Id == id })
		q.Ends = append(q.Ends, impl.End{Id: id, At: q.Now, Why: why})
		gone = append(gone, j)
	}
	if len(gone) == 0 {
		return impl.State{}, 5
	}
	if len(s.Ends) == 300 {
		return impl.State{}, 6
	}
	return startOf(q), 0
}

func failOf(s impl.State, n int) (impl.State, int) {
	if !stateRight(s) {
		return impl.State{}, 1
	}
	if n < 0 || n >= len(s.Topo.Nodes) || !s.Up[n] {
		return impl.State{}, 7
	}
	q := stateCopy(s)
	q.Up[n] = false
	q.Queue = append(q.Queue, ended(&q, 4, func(run impl.Run) bool { return slices.Contains(run.Nodes, n) })...)
	if len(q.Ends) > 300 {
		return impl.State{}, 6
	}
	return startOf(q), 0
}

func resumeOf(s impl.State, n int) (impl.State, int) {
	if !stateRight(s) {
		return impl.State{}, 1
	}
	if n < 0 || n >= len(s.Topo.Nodes) || s.Up[n] {
		return impl.State{}, 8
	}
	q := stateCopy(s)
	q.Up[n] = true
	return startOf(q), 0
}

func resizeOf(s impl.State, lic impl.Vec) (impl.State, int) {
	if !stateRight(s) || !vecRight(lic) {
		return impl.State{}, 1
	}
	q := stateCopy(s)
	q.Lic = lic
	if _, ok := stateRoom(q); !ok {
		return impl.State{}, 9
	}
	return startOf(q), 0
}

func laterOf(s impl.State) []impl.Held {
	if !stateRight(s) {
		return nil
	}
	r, _ := stateRoom(s)
	_, later := planOf(r, s.Now, s.Queue, s.Depth)
	return later
}

// withCaps has the same tree, and on each node little room.
func withCaps(draw *rand.Rand, topo impl.Topo) impl.Topo {
	q := copyOf(topo)
	for n := range q.Nodes {
		q.Nodes[n].Cap = vec(2+draw.Intn(5), draw.Intn(4), 1+draw.Intn(3))
	}
	return q
}

// drawnRun is a run that may not fit, of a job that has some of its time behind it.
func drawnRun(draw *rand.Rand, s impl.State, j impl.Job) impl.Run {
	nodes := drawnNodes(draw, len(s.Topo.Nodes), j.Nodes)
	slices.Sort(nodes)
	return impl.Run{Job: j, At: max(0, s.Now-draw.Intn(j.Wall)), Nodes: nodes}
}

// drawnState is right, but what waits in it wasn't started where it could.
func drawnState(draw *rand.Rand, topo impl.Topo) impl.State {
	s := impl.State{Topo: withCaps(draw, topo), Lic: vec(draw.Intn(5), 1+draw.Intn(4), draw.Intn(5)), Depth: []int{0, 1, 1, 2, 3, 60}[draw.Intn(6)], Now: draw.Intn(8)}
	if draw.Intn(5) == 0 {
		s.Now = impl.MaxTime - draw.Intn(12)
	}
	for range topo.Nodes {
		s.Up = append(s.Up, draw.Intn(6) > 0)
	}
	for i, j := range drawnQueue(draw, 5+draw.Intn(20)) {
		q := stateCopy(s)
		if i%4 == 0 {
			q.Queue = append(q.Queue, j)
		} else {
			q.Runs = append(q.Runs, drawnRun(draw, s, j))
		}
		if stateRight(q) {
			s = q
		}
	}
	many := draw.Intn(4)
	if draw.Intn(5) == 0 {
		many = 297 + draw.Intn(4)
	}
	for range many {
		s.Ends = append(s.Ends, impl.End{Id: 1 + draw.Intn(999), At: draw.Intn(s.Now + 1), Why: 1 + draw.Intn(4)})
	}
	return s
}

func drawnStates(seed int64) []impl.State {
	var l []impl.State
	draw := rand.New(rand.NewSource(seed))
	for _, topo := range smallTopos() {
		for range 7 {
			l = append(l, drawnState(draw, topo))
		}
	}
	return l
}

// drawnCommand asks one thing of the program and of the document's words; each of its answers has a name.
type drawnCommand struct {
	name      string
	got, want impl.State
	code      int
	wanted    int
}

// drawnSubmit has now and then an Id that is there already, and a job that isn't right.
func drawnSubmit(draw *rand.Rand, s impl.State) drawnCommand {
	j := drawnJob(draw)
	j.Prio = draw.Intn(5)
	if all := jobsOf(s); len(all) > 0 && draw.Intn(6) == 0 {
		j.Id = all[draw.Intn(len(all))].Id
	}
	if draw.Intn(20) == 0 {
		j = wrongJobs()[draw.Intn(len(wrongJobs()))]
	}
	c := drawnCommand{name: fmt.Sprintf("Submit of %+v", j)}
	c.got, c.code = impl.Submit(s, j)
	c.want, c.wanted = submitOf(s, j)
	return c
}

func drawnFinish(draw *rand.Rand, s impl.State) drawnCommand {
	id, why := 1+draw.Intn(999), 2+draw.Intn(2)
	if all := jobsOf(s); len(all) > 0 && draw.Intn(6) > 0 {
		id = all[draw.Intn(len(all))].Id
	}
	if draw.Intn(12) == 0 {
		why = draw.Intn(7) - 1
	}
	c := drawnCommand{name: fmt.Sprintf("Finish of %d, %d", id, why)}
	c.got, c.code = impl.Finish(s, id, why)
	c.want, c.wanted = finishOf(s, id, why)
	return c
}

func drawnFail(draw *rand.Rand, s impl.State) drawnCommand {
	n := draw.Intn(len(s.Topo.Nodes)+2) - 1
	c := drawnCommand{name: fmt.Sprint("Fail of ", n)}
	c.got, c.code = impl.Fail(s, n)
	c.want, c.wanted = failOf(s, n)
	return c
}

func drawnResume(draw *rand.Rand, s impl.State) drawnCommand {
	n := draw.Intn(len(s.Topo.Nodes)+2) - 1
	if down := slices.Index(s.Up, false); down >= 0 && draw.Intn(3) == 0 {
		n = down
	}
	c := drawnCommand{name: fmt.Sprint("Resume of ", n)}
	c.got, c.code = impl.Resume(s, n)
	c.want, c.wanted = resumeOf(s, n)
	return c
}

func drawnResize(draw *rand.Rand, s impl.State) drawnCommand {
	lic := vec(draw.Intn(5), draw.Intn(5), draw.Intn(5))
	if draw.Intn(12) == 0 {
		lic.B = []int{-1, impl.MaxRes, impl.MaxRes + 1}[draw.Intn(3)]
	}
	c := drawnCommand{name: fmt.Sprint("Resize to ", lic)}
	c.got, c.code = impl.Resize(s, lic)
	c.want, c.wanted = resizeOf(s, lic)
	return c
}

// drawnUntil has the code 10 for false, as no other command has it.
func drawnUntil(draw *rand.Rand, s impl.State) drawnCommand {
	t := s.Now + draw.Intn(12) - 1
	c := drawnCommand{name: fmt.Sprint("Until ", t)}
	var ok, right bool
	if c.got, ok = impl.Until(s, t); !ok {
		c.code = 10
	}
	if c.want, right = untilOf(s, t); !right {
		c.wanted = 10
	}
	return c
}

var everyCommand = []func(*rand.Rand, impl.State) drawnCommand{drawnSubmit, drawnFinish, drawnFail, drawnResume, drawnResize, drawnUntil}

func TestStateLimits(t *testing.T) {
	if impl.MaxEnds != 300 || impl.WhyWall != 1 || impl.WhyDone != 2 || impl.WhyCancel != 3 || impl.WhyNode != 4 {
		t.Errorf("MaxEnds %d, WhyWall %d, WhyDone %d, WhyCancel %d, WhyNode %d", impl.MaxEnds, impl.WhyWall, impl.WhyDone, impl.WhyCancel, impl.WhyNode)
	}
}

func TestRoomOf(t *testing.T) {
	runs := 0
	for _, s := range drawnStates(40) {
		want, right := stateRoom(s)
		got, ok := impl.RoomOf(s)
		if !right || !ok || !sameRoom(got, want) || !impl.RoomOk(got) {
			t.Errorf("RoomOf(%+v) is %v, %v, not %v", s, got, ok, want)
		}
		runs += len(s.Runs)
	}
	if runs < 400 {
		t.Errorf("%d runs: too few to tell", runs)
	}
}

// What is free is asked time by time, of all runs together.
func TestRoomOfIsWhatIsThereLessWhatRuns(t *testing.T) {
	for _, s := range drawnStates(41) {
		r, ok := impl.RoomOf(s)
		if !ok || !slices.Equal(r.Up, s.Up) || !sameTopo(r.Topo, s.Topo) {
			t.Fatalf("RoomOf(%+v) is %v, %v", s, r, ok)
		}
		lics, nodes := []taken(nil), make([][]taken, len(s.Topo.Nodes))
		for _, run := range s.Runs {
			lics = append(lics, taken{s.Now, run.At + run.Job.Wall, run.Job.Lic})
			for _, n := range run.Nodes {
				nodes[n] = append(nodes[n], taken{s.Now, run.At + run.Job.Wall, run.Job.Need})
			}
		}
		for when := max(0, s.Now-2); when < s.Now+8 && when <= impl.MaxTime; when++ {
			if got := impl.ProfAt(r.Lics, when); got != leftAt(s.Lic, lics, when) {
				t.Errorf("in %+v at %d the licences %v are free", s, when, got)
			}
			for n, p := range r.Profs {
				if got := impl.ProfAt(p, when); got != leftAt(s.Topo.Nodes[n].Cap, nodes[n], when) {
					t.Errorf("in %+v at %d on the node %d is free %v", s, when, n, got)
				}
			}
		}
	}
}

// stateAt has all of twoLeaves up, with 4 licences of each kind and one reservation.
func stateAt(now int, runs ...impl.Run) impl.State {
	return impl.State{Topo: twoLeaves(), Up: []bool{true, true, true}, Lic: vec(4, 4, 4), Depth: 1, Now: now, Runs: runs}
}

func runOf(j impl.Job, at int, nodes ...int) impl.Run { return impl.Run{Job: j, At: at, Nodes: nodes} }

func TestRoomOfByHand(t *testing.T) {
	free := pts(at(0, 4, 4, 4))
	end := impl.MaxTime
	one, small := planJob(1, 0, 1, 10, 0), withLic(impl.Job{Id: 2, Nodes: 1, Need: vec(1, 0, 2), Wall: 5}, vec(0, 3, 0))
	down := stateAt(0)
	down.Up[1] = false
	none := stateAt(0)
	none.Topo, none.Up = impl.Topo{Parents: wide(3)}, nil
	for name, c := range map[string]struct {
		s    impl.State
		want impl.Room
	}{
		"nothing runs":                          {stateAt(0), withProfs(free)},
		"nothing runs, later":                   {stateAt(70), withProfs(free)},
		"nothing runs at the end":               {stateAt(end), withProfs(free)},
		"no nodes":                              {none, impl.Room{Topo: none.Topo, Lics: free}},
		"a node that is down":                   {down, downAt(withProfs(free), 1)},
		"one that starts just now":              {stateAt(0, runOf(one, 0, 1)), withProfs(free, free, pts(at(0, 1, 4, 4), at(10, 4, 4, 4)))},
		"one that starts at a later Now":        {stateAt(3, runOf(one, 3, 1)), withProfs(free, free, pts(at(0, 4, 4, 4), at(3, 1, 4, 4), at(13, 4, 4, 4)))},
		"one that has run a while":              {stateAt(7, runOf(one, 3, 1)), withProfs(free, free, pts(at(0, 4, 4, 4), at(7, 1, 4, 4), at(13, 4, 4, 4)))},
		"one in its last time":                  {stateAt(12, runOf(one, 3, 1)), withProfs(free, free, pts(at(0, 4, 4, 4), at(12, 1, 4, 4), at(13, 4, 4, 4)))},
		"one up to the end":                     {stateAt(end-1, runOf(one, end-10, 1)), withProfs(free, free, pts(at(0, 4, 4, 4), at(end-1, 1, 4, 4), at(end, 4, 4, 4)))},
		"two on one node":                       {stateAt(4, runOf(one, 2, 0), runOf(small, 3, 0)), withProfs(pts(at(0, 4, 4, 4), at(4, 4, 1, 4), at(8, 4, 4, 4)), pts(at(0, 4, 4, 4), at(4, 0, 4, 2), at(8, 1, 4, 4), at(12, 4, 4, 4)))},
		"two that end together":                 {stateAt(4, runOf(one, 2, 0), runOf(impl.Job{Id: 2, Nodes: 1, Need: vec(1, 1, 1), Wall: 8}, 4, 0)), withProfs(free, pts(at(0, 4, 4, 4), at(4, 0, 3, 3), at(12, 4, 4, 4)))},
		"one on two nodes":                      {stateAt(1, runOf(planJob(1, 0, 2, 10, 1), 0, 0, 2)), withProfs(free, pts(at(0, 4, 4, 4), at(1, 1, 4, 4), at(10, 4, 4, 4)), free, pts(at(0, 4, 4, 4), at(1, 1, 4, 4), at(10, 4, 4, 4)))},
		"one that needs nothing":                {stateAt(1, runOf(impl.Job{Id: 5, Nodes: 1, Wall: 9}, 0, 2)), withProfs(free)},
		"one below a switch of a level of more": {stateAt(1, runOf(planJob(1, 0, 2, 10, 0), 0, 0, 2)), withProfs(free, pts(at(0, 4, 4, 4), at(1, 1, 4, 4), at(10, 4, 4, 4)), free, pts(at(0, 4, 4, 4), at(1, 1, 4, 4), at(10, 4, 4, 4)))},
		"nodes that don't rise":                 {stateAt(1, runOf(planJob(1, 0, 2, 10, 0), 0, 1, 0)), withProfs(free, pts(at(0, 4, 4, 4), at(1, 1, 4, 4), at(10, 4, 4, 4)), pts(at(0, 4, 4, 4), at(1, 1, 4, 4), at(10, 4, 4, 4)))},
		"two with one Id":                       {stateAt(1, runOf(one, 0, 1), runOf(one, 0, 2)), withProfs(free, free, pts(at(0, 4, 4, 4), at(1, 1, 4, 4), at(10, 4, 4, 4)), pts(at(0, 4, 4, 4), at(1, 1, 4, 4), at(10, 4, 4, 4)))},
		"one that started below 0":              {stateAt(0, runOf(one, -9, 1)), withProfs(free, free, pts(at(0, 1, 4, 4), at(1, 4, 4, 4)))},
	} {
		if got, ok := impl.RoomOf(c.s); !ok || !sameRoom(got, c.want) {
			t.Errorf("%s: RoomOf is %v, %v", name, got, ok)
		}
	}
}

// busy has two that run, one that waits for all nodes, and one that ended; all of it is right.
func busy() impl.State {
	s := stateAt(5, runOf(planJob(1, 0, 1, 10, 0), 0, 0), runOf(withLic(planJob(2, 0, 2, 20, 1), vec(3, 0, 0)), 5, 1, 2))
	s.Queue = []impl.Job{planJob(3, 0, 3, 10, 1), withLic(planJob(4, 1, 1, 10, 0), vec(2, 0, 0))}
	s.Ends = []impl.End{{Id: 5, At: 0, Why: 2}, {Id: 6, At: 5, Why: 4}}
	return s
}

// withoutRoom has a name for each way in which there is no room of a state.
func withoutRoom() map[string]impl.State {
	l := map[string]impl.State{"nothing": {}}
	put := func(name string, change func(*impl.State)) {
		s := busy()
		change(&s)
		l[name] = s
	}
	for name, topo := range wrongTopos() {
		s := impl.State{Topo: topo, Depth: 1}
		for range topo.Nodes {
			s.Up = append(s.Up, true)
		}
		l["of the tree "+name] = s
	}
	put("another tree", func(s *impl.State) { s.Topo = impl.Topo{Parents: []int{0, 0, 0, 1}, Nodes: s.Topo.Nodes} })
	put("one Up too few", func(s *impl.State) { s.Up = s.Up[:2] })
	put("no Up", func(s *impl.State) { s.Up = nil })
	put("one Up too many", func(s *impl.State) { s.Up = append(s.Up, true) })
	put("very many Up", func(s *impl.State) { s.Up = make([]bool, 100000) })
	put("one node too few", func(s *impl.State) { s.Topo.Nodes = s.Topo.Nodes[:2] })
	put("Up of no nodes", func(s *impl.State) { s.Topo.Nodes, s.Runs = nil, nil })
	for _, n := range edges {
		if !amountRight(n) {
			put(fmt.Sprint("the licences A ", n), func(s *impl.State) { s.Lic.A = n })
			put(fmt.Sprint("the licences B ", n), func(s *impl.State) { s.Lic.B = n })
			put(fmt.Sprint("the licences C ", n), func(s *impl.State) { s.Lic.C = n })
		}
		if n < 0 || n > impl.MaxTime {
			put(fmt.Sprint("Now ", n), func(s *impl.State) { s.Now = n })
			put(fmt.Sprint("Now ", n, ", and nothing runs"), func(s *impl.State) { s.Now, s.Runs, s.Ends = n, nil, nil })
		}
	}
	put("Now at the end of a run", func(s *impl.State) { s.Now = 10 })
	put("Now behind the end of a run", func(s *impl.State) { s.Now = 11 })
	put("Now at the end of the other run", func(s *impl.State) { s.Now, s.Runs = 25, s.Runs[1:] })
	put("MaxTime", func(s *impl.State) { s.Now = impl.MaxTime })
	for run := range 2 {
		of := func(what string) string { return fmt.Sprint("of the run ", run, " ", what) }
		for i, j := range wrongJobs() {
			put(of(fmt.Sprint("the wrong job ", i)), func(s *impl.State) { s.Runs[run].Job = j })
		}
		put(of("At one above Now"), func(s *impl.State) { s.Runs[run].At = 6 })
		put(of("At MaxTime"), func(s *impl.State) { s.Runs[run].At = impl.MaxTime })
		put(of("the greatest At"), func(s *impl.State) { s.Runs[run].At = math.MaxInt })
		put(of("the least At"), func(s *impl.State) { s.Runs[run].At = math.MinInt })
		put(of("At and Wall just Now"), func(s *impl.State) { s.Runs[run].At = 5 - s.Runs[run].Job.Wall })
		put(of("At and Wall below Now"), func(s *impl.State) { s.Runs[run].At = 4 - s.Runs[run].Job.Wall })
		put(of("no nodes"), func(s *impl.State) { s.Runs[run].Nodes = nil })
		put(of("one node more"), func(s *impl.State) { s.Runs[run].Nodes = append(s.Runs[run].Nodes, 2) })
		put(of("a number of nodes of one more"), func(s *impl.State) { s.Runs[run].Job.Nodes++ })
		put(of("a node -1"), func(s *impl.State) { s.Runs[run].Nodes[0] = -1 })
		put(of("a node 3"), func(s *impl.State) { s.Runs[run].Nodes[0] = 3 })
		put(of("the greatest node"), func(s *impl.State) { s.Runs[run].Nodes[0] = math.MaxInt })
		put(of("very many nodes"), func(s *impl.State) { s.Runs[run].Nodes = make([]int, 100000) })
		put(of("more cores than there are"), func(s *impl.State) { s.Runs[run].Job.Need.A = 5 })
		put(of("more memory than there is"), func(s *impl.State) { s.Runs[run].Job.Need.B = 5 })
		put(of("more devices than there are"), func(s *impl.State) { s.Runs[run].Job.Need.C = 5 })
		put(of("more licences than there are"), func(s *impl.State) { s.Runs[run].Job.Lic.B = 5 })
	}
	put("a node twice", func(s *impl.State) { s.Runs[1].Nodes = []int{1, 1} })
	put("two that don't fit a node", func(s *impl.State) { s.Runs[0].Nodes[0] = 1 })
	put("two that don't fit the licences", func(s *impl.State) { s.Runs[0].Job.Lic.A = 2 })
	put("too few licences", func(s *impl.State) { s.Lic.A = 2 })
	put("a node with too few cores", func(s *impl.State) { s.Topo.Nodes[2].Cap.A = 2 })
	put("beyond MaxTime", func(s *impl.State) { s.Now, s.Runs[0].At, s.Runs = impl.MaxTime-3, impl.MaxTime-9, s.Runs[:1] })
	put("very many runs", func(s *impl.State) { s.Runs = make([]impl.Run, 100000) })
	return l
}

// wrongWithRoom has a name for each way in which a state with a room isn't right.
func wrongWithRoom() map[string]impl.State {
	l := map[string]impl.State{}
	put := func(name string, change func(*impl.State)) {
		s := busy()
		change(&s)
		l[name] = s
	}
	for _, n := range append([]int{-2, 61, 62, 299, 300, 999}, edges...) {
		if n < 0 || n > 60 {
			put(fmt.Sprint("Depth ", n), func(s *impl.State) { s.Depth = n })
		}
	}
	for name, queue := range wrongQueues() {
		put("of the queue "+name, func(s *impl.State) { s.Queue = queue })
	}
	put("a job that waits twice", func(s *impl.State) { s.Queue[1].Id = 3 })
	put("a job that waits and runs", func(s *impl.State) { s.Queue[0].Id = 2 })
	put("the last that waits and the first that runs", func(s *impl.State) { s.Queue[1].Id = 1 })
	put("a job that runs twice", func(s *impl.State) { s.Runs[1].Job.Id = 1 })
	put("61 jobs that wait and run", func(s *impl.State) {
		s.Queue = fullQueue(59)
		for i := range s.Queue {
			s.Queue[i].Id += 100
		}
	})
	put("a node that isn't up", func(s *impl.State) { s.Up[0] = false })
	put("the last of two nodes isn't up", func(s *impl.State) { s.Up[2] = false })
	put("no node is up", func(s *impl.State) { s.Up = []bool{false, false, false} })
	put("nodes that don't rise", func(s *impl.State) { s.Runs[1].Nodes = []int{2, 1} })
	put("nodes below no switch of its level", func(s *impl.State) { s.Runs[1].Job.Level = 0 })
	end := func(name string, e impl.End) {
		put("at first an end with "+name, func(s *impl.State) { s.Ends[0] = e })
		put("at last an end with "+name, func(s *impl.State) { s.Ends[1] = e })
	}
	for _, n := range placeEdges {
		if n < 1 || n > 999 {
			end(fmt.Sprint("the Id ", n), impl.End{Id: n, At: 1, Why: 1})
		}
		if n < 0 || n > 5 {
			end(fmt.Sprint("At ", n), impl.End{Id: 1, At: n, Why: 1})
		}
		if n < 1 || n > 4 {
			end(fmt.Sprint("Why ", n), impl.End{Id: 1, At: 1, Why: n})
		}
	}
	end("At one above Now", impl.End{Id: 1, At: 6, Why: 1})
	end("Why 5", impl.End{Id: 1, At: 1, Why: 5})
	end("nothing", impl.End{})
	put("301 ends", func(s *impl.State) { s.Ends = manyEnds(301) })
	put("very many ends", func(s *impl.State) { s.Ends = manyEnds(100000) })
	return l
}

func manyEnds(n int) []impl.End {
	l := make([]impl.End, n)
	for i := range l {
		l[i] = impl.End{Id: 1 + i%999, At: 0, Why: 1 + i%4}
	}
	return l
}

func TestNoRoomOf(t *testing.T) {
	for name, s := range withoutRoom() {
		if _, right := stateRoom(s); right {
			t.Errorf("%s: there is a room", name)
		}
		if got, ok := impl.RoomOf(s); ok || !noRoom(got) {
			t.Errorf("%s: RoomOf is %v, %v", name, got, ok)
		}
	}
	for name, s := range wrongWithRoom() {
		want, right := stateRoom(s)
		if got, ok := impl.RoomOf(s); !right || !ok || !sameRoom(got, want) {
			t.Errorf("%s: RoomOf is %v, %v", name, got, ok)
		}
	}
}

// As many runs as there are points for, each with an end of its own, and one more.
func TestRoomOfTheMostRuns(t *testing.T) {
	for _, now := range []int{0, 9} {
		s := stateAt(now)
		s.Topo.Nodes[0].Cap.A = 1000
		for len(s.Runs) < 202 {
			if len(s.Runs) > 195 {
				_, right := stateRoom(s)
				if _, ok := impl.RoomOf(s); ok != right || right != (len(s.Runs) <= 199-min(now, 1)) {
					t.Errorf("at %d with %d runs: RoomOf is %v, not %v", now, len(s.Runs), ok, right)
				}
			}
			s.Runs = append(s.Runs, runOf(impl.Job{Id: 1, Nodes: 1, Need: vec(1, 0, 0), Wall: 20 + len(s.Runs)}, 0, 0))
		}
	}
	// Those that need nothing have no points.
	s := stateAt(9)
	for len(s.Runs) < 5000 {
		s.Runs = append(s.Runs, runOf(impl.Job{Id: 1, Nodes: 3, Wall: 20 + len(s.Runs)}, 0, 0, 1, 2))
	}
	if r, ok := impl.RoomOf(s); !ok || !sameRoom(r, withProfs(pts(at(0, 4, 4, 4)))) {
		t.Errorf("with runs that need nothing: RoomOf is %v, %v", r, ok)
	}
}

func TestStateOk(t *testing.T) {
	for _, s := range drawnStates(42) {
		if !impl.StateOk(s) {
			t.Errorf("StateOk(%+v) is false", s)
		}
	}
	if !stateRight(busy()) || !impl.StateOk(busy()) {
		t.Error("StateOk of the busy state is false")
	}
	for name, s := range withoutRoom() {
		if stateRight(s) || impl.StateOk(s) {
			t.Errorf("%s: StateOk is true", name)
		}
	}
	for name, s := range wrongWithRoom() {
		if stateRight(s) || impl.StateOk(s) {
			t.Errorf("%s: StateOk is true", name)
		}
	}
}

// fullState has so many jobs, as many of them run as nodes are there.
func fullState(n int) impl.State {
	s := impl.State{Topo: withNodes(wide(24), 24), Lic: vec(9, 9, 9)}
	for node := range s.Topo.Nodes {
		s.Topo.Nodes[node].Cap = vec(1, 1, 1)
		s.Up = append(s.Up, true)
	}
	for i, j := range fullQueue(n) {
		j.Wall = 10 + i
		if i < 24 {
			s.Runs = append(s.Runs, runOf(j, 0, i))
		} else {
			s.Queue = append(s.Queue, j)
		}
	}
	return s
}

func TestStateOkAtTheEdges(t *testing.T) {
	for name, c := range map[string]struct {
		change func(*impl.State)
		want   bool
	}{
		"Depth 0":                           {func(s *impl.State) { s.Depth = 0 }, true},
		"Depth 60":                          {func(s *impl.State) { s.Depth = 60 }, true},
		"Depth 61":                          {func(s *impl.State) { s.Depth = 61 }, false},
		"Depth -1":                          {func(s *impl.State) { s.Depth = -1 }, false},
		"300 ends":                          {func(s *impl.State) { s.Ends = manyEnds(300) }, true},
		"301 ends":                          {func(s *impl.State) { s.Ends = manyEnds(301) }, false},
		"one end twice":                     {func(s *impl.State) { s.Ends[0] = s.Ends[1] }, true},
		"an end of one that runs":           {func(s *impl.State) { s.Ends[0].Id = 1 }, true},
		"ends that fall":                    {func(s *impl.State) { s.Ends[0], s.Ends[1] = s.Ends[1], s.Ends[0] }, true},
		"an end at Now":                     {func(s *impl.State) { s.Ends[0].At = 5 }, true},
		"an end one behind Now":             {func(s *impl.State) { s.Ends[0].At = 6 }, false},
		"the greatest Id ended":             {func(s *impl.State) { s.Ends[0].Id = 999 }, true},
		"the Why 4":                         {func(s *impl.State) { s.Ends[0].Why = 4 }, true},
		"the Why 5":                         {func(s *impl.State) { s.Ends[0].Why = 5 }, false},
		"the Why 0":                         {func(s *impl.State) { s.Ends[0].Why = 0 }, false},
		"Now one ahead of the end of a run": {func(s *impl.State) { s.Now = 9 }, true},
		"Now at the end of a run":           {func(s *impl.State) { s.Now = 10 }, false},
		"At at Now":                         {func(s *impl.State) { s.Runs[0].At = 5 }, true},
		"At one above Now":                  {func(s *impl.State) { s.Runs[0].At = 6 }, false},
		"At and Wall one above Now":         {func(s *impl.State) { s.Runs[0].At = -4 }, true},
		"At and Wall just Now":              {func(s *impl.State) { s.Runs[0].At = -5 }, false},
		"the level that the nodes have":     {func(s *impl.State) { s.Runs[1].Job.Level = 1 }, true},
		"one level below it":                {func(s *impl.State) { s.Runs[1].Job.Level = 0 }, false},
		"a level above the tree":            {func(s *impl.State) { s.Runs[1].Job.Level = 24 }, true},
		"a level below the tree, on a leaf": {func(s *impl.State) { s.Runs[0].Job.Level = 0 }, true},
		"just all licences":                 {func(s *impl.State) { s.Runs[0].Job.Lic.A = 1 }, true},
		"one licence too many":              {func(s *impl.State) { s.Runs[0].Job.Lic.A = 2 }, false},
		"just all cores":                    {func(s *impl.State) { s.Runs[0].Job.Need.A = 4 }, true},
		"one that waits and can never go":   {func(s *impl.State) { s.Queue[0].Nodes = 24 }, true},
		"one that waits and could go":       {func(s *impl.State) { s.Queue[0] = impl.Job{Id: 3, Nodes: 1, Wall: 1} }, true},
		"nothing waits":                     {func(s *impl.State) { s.Queue = []impl.Job{} }, true},
		"nothing runs":                      {func(s *impl.State) { s.Runs = nil }, true},
		"nothing runs, and none is up":      {func(s *impl.State) { s.Runs, s.Up = nil, make([]bool, 3) }, true},
		"nothing ended":                     {func(s *impl.State) { s.Ends = nil }, true},
		"MaxTime":                           {func(s *impl.State) { s.Runs, s.Now = nil, impl.MaxTime }, true},
		"one beyond MaxTime":                {func(s *impl.State) { s.Runs, s.Now = nil, impl.MaxTime+1 }, false},
		"a run up to MaxTime": {func(s *impl.State) {
			s.Now, s.Runs = impl.MaxTime-1, []impl.Run{runOf(planJob(1, 0, 1, 10, 0), impl.MaxTime-10, 0)}
		}, true},
		"a run one beyond MaxTime": {func(s *impl.State) {
			s.Now, s.Runs = impl.MaxTime-1, []impl.Run{runOf(planJob(1, 0, 1, 10, 0), impl.MaxTime-9, 0)}
		}, false},
		"60 jobs": {func(s *impl.State) { *s = fullState(60) }, true},
		"61 jobs": {func(s *impl.State) { *s = fullState(61) }, false},
	} {
		s := busy()
		c.change(&s)
		if got := impl.StateOk(s); got != c.want || stateRight(s) != c.want {
			t.Errorf("%s: StateOk is %v", name, got)
		}
	}
}

// changedState has one thing drawn anew; it may be right or not.
func changedState(draw *rand.Rand, s impl.State) impl.State {
	q := stateCopy(s)
	switch draw.Intn(7) {
	case 0:
		q.Now += draw.Intn(7) - 3
	case 1:
		q.Depth = []int{-1, 0, 60, 61}[draw.Intn(4)]
	case 2:
		*[]*int{&q.Lic.A, &q.Lic.B, &q.Lic.C}[draw.Intn(3)] = draw.Intn(4) - 1
	case 3:
		if len(q.Up) > 0 {
			q.Up[draw.Intn(len(q.Up))] = draw.Intn(3) == 0
		}
	case 4:
		if len(q.Queue) > 0 {
			j := &q.Queue[draw.Intn(len(q.Queue))]
			*jobFields(j)[draw.Intn(11)] = draw.Intn(30) - 1
		}
	case 5:
		if len(q.Ends) > 0 {
			e := &q.Ends[draw.Intn(len(q.Ends))]
			*[]*int{&e.Id, &e.At, &e.Why}[draw.Intn(3)] = draw.Intn(12) - 1
		}
	case 6:
		changeRun(draw, &q)
	}
	return q
}

func changeRun(draw *rand.Rand, s *impl.State) {
	if len(s.Runs) == 0 {
		return
	}
	run, other := &s.Runs[draw.Intn(len(s.Runs))], s.Runs[draw.Intn(len(s.Runs))]
	switch draw.Intn(6) {
	case 0:
		run.At += draw.Intn(9) - 4
	case 1:
		run.Nodes = drawnNodes(draw, len(s.Topo.Nodes), len(run.Nodes))
	case 2:
		run.Nodes[draw.Intn(len(run.Nodes))] = draw.Intn(len(s.Topo.Nodes)+2) - 1
	case 3:
		*jobFields(&run.Job)[draw.Intn(11)] = draw.Intn(8) - 1
	case 4:
		run.Job.Id = other.Job.Id
	case 5:
		run.Nodes = slices.Clone(other.Nodes)
	}
}

func TestStateOkOfChangedStates(t *testing.T) {
	draw := rand.New(rand.NewSource(43))
	right, room, none := 0, 0, 0
	for _, s := range drawnStates(44) {
		for range 20 {
			q := changedState(draw, s)
			ok, goes := impl.StateOk(q), stateRight(q)
			got, has := impl.RoomOf(q)
			want, had := stateRoom(q)
			if ok != goes || has != had || !sameRoom(got, want) {
				t.Errorf("of %+v StateOk is %v, RoomOf %v, %v, not %v and %v", q, ok, got, has, goes, had)
			}
			switch {
			case goes:
				right++
			case had:
				room++
			default:
				none++
			}
		}
	}
	if right < 500 || room < 500 || none < 300 {
		t.Errorf("%d are right, %d have a room, %d have none: too few to tell", right, room, none)
	}
}

func TestStateNew(t *testing.T) {
	for _, topo := range someTopos() {
		for _, depth := range []int{0, 1, 59, 60} {
			lic := vec(depth, impl.MaxRes, 0)
			want := impl.State{Topo: topo, Lic: lic, Depth: depth}
			for range topo.Nodes {
				want.Up = append(want.Up, true)
			}
			if got, ok := impl.StateNew(topo, lic, depth); !ok || !sameState(got, want) || !impl.StateOk(got) {
				t.Errorf("StateNew(%v, %v, %d) is %+v, %v", topo, lic, depth, got, ok)
			}
		}
	}
	for name, topo := range wrongTopos() {
		if got, ok := impl.StateNew(topo, impl.Vec{}, 1); ok || !noState(got) {
			t.Errorf("%s: StateNew is %+v, %v", name, got, ok)
		}
	}
	for _, lic := range vecsOf(edges) {
		if got, ok := impl.StateNew(twoLeaves(), lic, 1); ok != vecRight(lic) || noState(got) == ok {
			t.Errorf("with %v: StateNew is %+v, %v", lic, got, ok)
		}
	}
	for _, depth := range append([]int{59, 60, 61, 62}, edges...) {
		if got, ok := impl.StateNew(twoLeaves(), impl.Vec{}, depth); ok != (depth >= 0 && depth <= 60) || noState(got) == ok {
			t.Errorf("with the depth %d: StateNew is %+v, %v", depth, got, ok)
		}
	}
}

func TestStart(t *testing.T) {
	begun, still := 0, 0
	for _, s := range drawnStates(45) {
		got := impl.Start(s)
		if !sameState(got, startOf(s)) || !impl.StateOk(got) {
			t.Errorf("Start(%+v) is %+v", s, got)
		}
		if again := impl.Start(got); !sameState(again, startOf(got)) {
			t.Errorf("Start(%+v) is %+v", got, again)
		}
		begun, still = begun+len(got.Runs)-len(s.Runs), still+len(got.Queue)
	}
	if begun < 100 || still < 100 {
		t.Errorf("%d start, %d still wait: too few to tell", begun, still)
	}
}

// waiting is stateAt with jobs that wait, and of the licences 2 of each kind.
func waiting(now int, jobs []impl.Job, runs ...impl.Run) impl.State {
	s := stateAt(now, runs...)
	s.Queue, s.Lic = jobs, vec(2, 2, 2)
	return s
}

func TestStartByHand(t *testing.T) {
	end := impl.MaxTime
	lic := func(id, prio, n, wall int) impl.Job { return withLic(planJob(id, prio, 1, wall, 0), vec(n, 0, 0)) }
	down := waiting(4, []impl.Job{planJob(1, 0, 2, 5, 0), planJob(2, 0, 1, 5, 0)})
	down.Up[0] = false
	for name, c := range map[string]struct {
		s     impl.State
		depth int
		want  string
	}{
		"nothing waits":                            {stateAt(0), 1, "0: | | |"},
		"nothing waits, one runs":                  {stateAt(3, runOf(planJob(1, 0, 1, 9, 0), 2, 1)), 1, "3: | 1@2[1] | |"},
		"one":                                      {waiting(7, []impl.Job{planJob(5, 0, 1, 9, 0)}), 0, "7: | 5@7[2] | |"},
		"by rank, not by place":                    {waiting(7, []impl.Job{planJob(1, 0, 2, 9, 0), planJob(3, 5, 1, 9, 0), planJob(2, 5, 1, 9, 0)}), 0, "7: 1 | 2@7[2] 3@7[0] | |"},
		"behind those that run":                    {waiting(7, []impl.Job{planJob(1, 9, 1, 9, 0)}, runOf(planJob(8, 0, 1, 9, 0), 3, 2), runOf(planJob(7, 0, 1, 9, 0), 2, 0)), 0, "7: | 8@3[2] 7@2[0] 1@7[1] | |"},
		"those left keep their places":             {waiting(0, []impl.Job{planJob(4, 0, 3, 9, 1), planJob(2, 9, 2, 9, 0), planJob(3, 0, 3, 9, 1), planJob(1, 8, 1, 9, 0)}), 0, "0: 4 3 | 2@0[0 1] 1@0[2] | |"},
		"one with a reservation stands in the way": {waiting(5, []impl.Job{planJob(1, 9, 3, 9, 1), planJob(2, 0, 1, 20, 0)}, runOf(planJob(8, 0, 1, 9, 0), 0, 0)), 1, "5: 1 2 | 8@0[0] | |"},
		"without reservations it doesn't":          {waiting(5, []impl.Job{planJob(1, 9, 3, 9, 1), planJob(2, 0, 1, 20, 0)}, runOf(planJob(8, 0, 1, 9, 0), 0, 0)), 0, "5: 1 | 8@0[0] 2@5[1] | |"},
		"one that is over just then goes ahead":    {waiting(5, []impl.Job{planJob(1, 9, 3, 9, 1), planJob(2, 0, 1, 4, 0)}, runOf(planJob(8, 0, 1, 9, 0), 0, 0)), 1, "5: 1 | 8@0[0] 2@5[1] | |"},
		"one that is over one later doesn't":       {waiting(5, []impl.Job{planJob(1, 9, 3, 9, 1), planJob(2, 0, 1, 5, 0)}, runOf(planJob(8, 0, 1, 9, 0), 0, 0)), 1, "5: 1 2 | 8@0[0] | |"},
		"as many as there are licences":            {waiting(0, []impl.Job{lic(1, 0, 1, 5), lic(2, 0, 1, 5), lic(3, 0, 1, 5)}), 0, "0: 3 | 1@0[2] 2@0[0] | |"},
		"licences that a run has":                  {waiting(0, []impl.Job{lic(1, 0, 1, 5), lic(2, 0, 2, 5)}, runOf(lic(9, 0, 1, 5), 0, 1)), 0, "0: 2 | 9@0[1] 1@0[0] | |"},
		"a node that is down":                      {down, 0, "4: 1 | 2@4[1] | | 0"},
		"just up to the end":                       {waiting(end-9, []impl.Job{planJob(1, 0, 1, 9, 0)}), 1, fmt.Sprintf("%d: | 1@%d[2] | |", end-9, end-9)},
		"one beyond the end":                       {waiting(end-8, []impl.Job{planJob(1, 0, 1, 9, 0)}), 1, fmt.Sprintf("%d: 1 | | |", end-8)},
		"at the end":                               {waiting(end, []impl.Job{planJob(1, 0, 1, 1, 0)}), 60, fmt.Sprintf("%d: 1 | | |", end)},
	} {
		c.s.Depth = c.depth
		got := impl.Start(c.s)
		if text := stateText(got); text != c.want {
			t.Errorf("%s: Start is %s, not %s", name, text, c.want)
		}
		if !sameState(got, startOf(c.s)) {
			t.Errorf("%s: Start is %+v", name, got)
		}
	}
}

func TestNextEnd(t *testing.T) {
	none, some := 0, 0
	for _, s := range drawnStates(46) {
		got := impl.NextEnd(s)
		if got != nextEndOf(s) || got >= 0 && got <= s.Now {
			t.Errorf("NextEnd(%+v) is %d", s, got)
		}
		if got < 0 {
			none++
		} else {
			some++
		}
	}
	if none < 20 || some < 100 {
		t.Errorf("%d without, %d with an end: too few to tell", none, some)
	}
	end := impl.MaxTime
	for name, c := range map[string]struct {
		s    impl.State
		want int
	}{
		"nothing runs":           {stateAt(0), -1},
		"one waits":              {waiting(0, []impl.Job{planJob(1, 0, 1, 9, 0)}), -1},
		"one":                    {stateAt(3, runOf(planJob(1, 0, 1, 9, 0), 2, 0)), 11},
		"the least is last":      {stateAt(3, runOf(planJob(1, 0, 1, 9, 0), 2, 0), runOf(planJob(2, 0, 1, 2, 0), 2, 1)), 4},
		"the least is first":     {stateAt(3, runOf(planJob(7, 0, 1, 2, 0), 2, 0), runOf(planJob(2, 0, 1, 9, 0), 2, 1)), 4},
		"two at once":            {stateAt(3, runOf(planJob(7, 0, 1, 2, 0), 3, 0), runOf(planJob(2, 0, 1, 5, 0), 0, 1)), 5},
		"a time of one":          {stateAt(0, runOf(planJob(7, 0, 1, 1, 0), 0, 0)), 1},
		"the longest":            {stateAt(0, runOf(planJob(7, 0, 1, 1000000, 0), 0, 0)), 1000000},
		"up to MaxTime":          {stateAt(end-1, runOf(planJob(7, 0, 1, 5, 0), end-5, 0)), end},
		"the sooner starts last": {stateAt(9, runOf(planJob(1, 0, 1, 100, 0), 0, 0), runOf(planJob(2, 0, 1, 1, 0), 9, 1)), 10},
	} {
		if got := impl.NextEnd(c.s); got != c.want {
			t.Errorf("%s: NextEnd is %d", name, got)
		}
	}
}

func TestUntil(t *testing.T) {
	over, not := 0, 0
	for _, s := range drawnStates(47) {
		for _, by := range []int{-2, -1, 0, 1, 2, 3, 5, 9, 30} {
			want, right := untilOf(s, s.Now+by)
			got, ok := impl.Until(s, s.Now+by)
			if ok != right || !sameState(got, want) || ok && !impl.StateOk(got) {
				t.Errorf("Until(%+v, %d) is %+v, %v, not %+v, %v", s, s.Now+by, got, ok, want, right)
			}
			if ok {
				over += len(got.Ends) - len(s.Ends)
			} else if by >= 0 && s.Now+by <= impl.MaxTime {
				not++
			}
		}
	}
	if over < 1000 || not < 50 {
		t.Errorf("%d runs are over, %d times there are too many ends: too few to tell", over, not)
	}
}

// A run ends at just its At and Wall; one that started on the way did so when another ended.
func TestARunEndsJustWhenItsTimeIsOver(t *testing.T) {
	later := 0
	for _, s := range drawnStates(48) {
		for by := range 25 {
			u, ok := impl.Until(s, s.Now+by)
			if !ok {
				continue
			}
			told := fmt.Sprintf("Until(%+v, %d) is %s", s, s.Now+by, stateText(u))
			if u.Now != s.Now+by || len(u.Ends) < len(s.Ends) || !slices.Equal(u.Ends[:len(s.Ends)], s.Ends) {
				t.Fatal(told)
			}
			ends := map[int]int{}
			for _, e := range u.Ends[len(s.Ends):] {
				ends[e.At]++
				if e.Why != impl.WhyWall || e.At <= s.Now || e.At > u.Now {
					t.Errorf("%s, with the end %v", told, e)
				}
				if i := slices.IndexFunc(s.Runs, func(r impl.Run) bool { return r.Job.Id == e.Id }); i >= 0 {
					if e.At != s.Runs[i].At+s.Runs[i].Job.Wall {
						t.Errorf("%s, but %d ends at %d", told, e.Id, e.At)
					}
					continue
				}
				j := jobWithId(s.Queue, e.Id)
				later++
				if j.Id == 0 || ends[e.At-j.Wall] == 0 {
					t.Errorf("%s, but nothing ended when %d started", told, e.Id)
				}
			}
			for _, run := range u.Runs {
				if run.At+run.Job.Wall <= u.Now || run.At > s.Now && ends[run.At] == 0 {
					t.Errorf("%s, but %d runs on, or started too soon", told, run.Job.Id)
				}
			}
			if len(u.Ends)+len(u.Runs)+len(u.Queue) != len(s.Ends)+len(s.Runs)+len(s.Queue) {
				t.Errorf("%s, and some are lost", told)
			}
		}
	}
	if later < 200 {
		t.Errorf("%d started on the way and ended: too few to tell", later)
	}
}

func TestToATimeInStepsIsThereAtOnce(t *testing.T) {
	draw := rand.New(rand.NewSource(49))
	went, not := 0, 0
	for _, s := range drawnStates(50) {
		for range 12 {
			a := s.Now + draw.Intn(9)
			b := a + draw.Intn(9)
			once, ok := impl.Until(s, b)
			step, first := impl.Until(s, a)
			twice, also := impl.Until(step, b)
			if (first && also) != ok || !sameState(once, twice) {
				t.Errorf("from %+v to %d and %d is %s, %v, at once %s, %v", s, a, b, stateText(twice), also, stateText(once), ok)
			}
			if ok {
				went++
			} else {
				not++
			}
		}
	}
	if went < 1000 || not < 50 {
		t.Errorf("%d went, %d did not: too few to tell", went, not)
	}
}

func TestUntilByHand(t *testing.T) {
	end := impl.MaxTime
	one := func(id, wall int) impl.Job { return planJob(id, 0, 1, wall, 0) }
	three := []impl.Run{runOf(one(3, 10), 0, 0), runOf(one(1, 10), 0, 1), runOf(one(2, 10), 0, 2)}
	queue := []impl.Job{planJob(8, 0, 3, 5, 1), planJob(9, 0, 1, 5, 0)}
	full := waiting(0, queue, three...)
	full.Ends = manyEnds(297)
	over := waiting(0, queue, three...)
	over.Ends = manyEnds(298)
	last := waiting(0, []impl.Job{one(9, 5)}, runOf(one(1, 10), 0, 2), runOf(planJob(2, 0, 2, 20, 0), 0, 0, 1))
	last.Ends = manyEnds(299)
	for name, c := range map[string]struct {
		s    impl.State
		t    int
		want string
	}{
		"nothing runs":                          {stateAt(3), 9, "9: | | |"},
		"no time goes by":                       {stateAt(3), 3, "3: | | |"},
		"all of it":                             {stateAt(0), end, fmt.Sprint(end, ": | | |")},
		"at the end already":                    {stateAt(end), end, fmt.Sprint(end, ": | | |")},
		"one back":                              {stateAt(3), 2, "false"},
		"to below 0":                            {stateAt(0), -1, "false"},
		"beyond the end":                        {stateAt(0), end + 1, "false"},
		"to the least":                          {stateAt(0), math.MinInt, "false"},
		"to the greatest":                       {stateAt(0), math.MaxInt, "false"},
		"one ahead of the end of a run":         {stateAt(3, runOf(one(1, 9), 2, 0)), 10, "10: | 1@2[0] | |"},
		"just at its end":                       {stateAt(3, runOf(one(1, 9), 2, 0)), 11, "11: | | 1@11/1 |"},
		"one behind it":                         {stateAt(3, runOf(one(1, 9), 2, 0)), 12, "12: | | 1@11/1 |"},
		"several that end at once":              {stateAt(0, three...), 10, "10: | | 3@10/1 1@10/1 2@10/1 |"},
		"several one behind the other":          {stateAt(0, runOf(one(3, 10), 0, 0), runOf(one(1, 4), 0, 1), runOf(one(2, 7), 0, 2)), 20, "20: | | 1@4/1 2@7/1 3@10/1 |"},
		"one ends and another starts":           {waiting(0, []impl.Job{planJob(9, 0, 3, 5, 1)}, runOf(one(1, 10), 0, 0)), 10, "10: | 9@10[0 1 2] | 1@10/1 |"},
		"and ends as well":                      {waiting(0, []impl.Job{planJob(9, 0, 3, 5, 1)}, runOf(one(1, 10), 0, 0)), 15, "15: | | 1@10/1 9@15/1 |"},
		"one ahead of that":                     {waiting(0, []impl.Job{planJob(9, 0, 3, 5, 1)}, runOf(one(1, 10), 0, 0)), 14, "14: | 9@10[0 1 2] | 1@10/1 |"},
		"several end and others start":          {waiting(0, queue, three...), 12, "12: 9 | 8@10[0 1 2] | 3@10/1 1@10/1 2@10/1 |"},
		"and so on":                             {waiting(0, queue, three...), 16, "16: | 9@15[2] | 3@10/1 1@10/1 2@10/1 8@15/1 |"},
		"one starts where two end in turn":      {waiting(0, []impl.Job{planJob(9, 0, 2, 5, 0)}, runOf(one(1, 3), 0, 0), runOf(one(2, 6), 0, 1)), 8, "8: | 9@6[0 1] | 1@3/1 2@6/1 |"},
		"one that could start waits for an end": {waiting(3, []impl.Job{one(9, 5)}), 100, "100: 9 | | |"},
		"and starts behind one":                 {waiting(3, []impl.Job{one(9, 5)}, runOf(one(1, 10), 0, 2)), 100, "100: | | 1@10/1 9@15/1 |"},
		"up to 300 ends":                        {full, 10, "10: 9 | 8@10[0 1 2] |"},
		"beyond 300 ends":                       {full, 15, "false"},
		"three more than 298":                   {over, 10, "false"},
		"three more than 298, one ahead":        {over, 9, "9: 8 9 | 3@0[0] 1@0[1] 2@0[2] |"},
		"the last of 300":                       {last, 14, "14: | 2@0[0 1] 9@10[2] |"},
		"one more behind it":                    {last, 15, "false"},
		"to the end of all":                     {stateAt(end-4, runOf(one(1, 10), end-10, 0)), end, fmt.Sprintf("%d: | | 1@%d/1 |", end, end)},
		"nothing starts at the end of all":      {waiting(end-4, []impl.Job{one(9, 1)}, runOf(one(1, 10), end-10, 0)), end, fmt.Sprintf("%d: 9 | | 1@%d/1 |", end, end)},
		"one starts one ahead of it":            {waiting(end-4, []impl.Job{one(9, 1)}, runOf(one(1, 9), end-10, 0)), end, fmt.Sprintf("%d: | | 1@%d/1 9@%d/1 |", end, end-1, end)},
	} {
		got, ok := impl.Until(c.s, c.t)
		text := untilText(got, ok)
		if len(c.s.Ends) > 200 && ok {
			text = strings.TrimSpace(text[:strings.LastIndex(text[:strings.LastIndex(text, "|")], "|")+1])
		}
		if text != c.want {
			t.Errorf("%s: Until is %s, not %s", name, text, c.want)
		}
	}
}

// Here there is room for one, and as many as there may be run one behind the other.
func TestUntilOfALongRow(t *testing.T) {
	s := impl.State{Topo: withNodes([]int{0}, 1), Up: []bool{true}, Depth: 60}
	s.Topo.Nodes[0].Cap = vec(1, 1, 1)
	for _, j := range fullQueue(60) {
		j.Wall, j.Prio = impl.MaxWall, 0
		s.Queue = append(s.Queue, j)
	}
	s = impl.Start(s)
	u, ok := impl.Until(s, impl.MaxTime)
	if !ok || len(u.Ends) != 60 || len(u.Queue)+len(u.Runs) != 0 || u.Now != impl.MaxTime {
		t.Fatalf("Until is %s, %v", stateText(u), ok)
	}
	for i, e := range u.Ends {
		if (e != impl.End{Id: i + 1, At: (i + 1) * impl.MaxWall, Why: 1}) {
			t.Errorf("the end %d is %v", i, e)
		}
	}
	if next := impl.NextEnd(s); next != impl.MaxWall {
		t.Errorf("NextEnd is %d", next)
	}
}

func TestCommandsOfDrawnStates(t *testing.T) {
	draw := rand.New(rand.NewSource(51))
	codes := map[int]int{}
	for _, s := range drawnStates(52) {
		for range 4 {
			for _, command := range everyCommand {
				c := command(draw, s)
				codes[c.code]++
				if c.code != c.wanted || !sameState(c.got, c.want) || c.code == 0 && !impl.StateOk(c.got) {
					t.Errorf("%s in %+v is %s, not %s", c.name, s, codeText(c.got, c.code), codeText(c.want, c.wanted))
				}
			}
		}
	}
	for code, least := range map[int]int{0: 2000, 1: 50, 2: 50, 4: 200, 5: 100, 6: 30, 7: 200, 8: 500, 9: 100, 10: 100} {
		if codes[code] < least {
			t.Errorf("the code %d comes %d times: too few to tell", code, codes[code])
		}
	}
}

// A play goes on from what the commands answered, so that queues fill and empty.
func TestPlaysOfCommands(t *testing.T) {
	draw := rand.New(rand.NewSource(53))
	most, ran := 0, 0
	for _, topo := range smallTopos() {
		topo = withCaps(draw, topo)
		s, ok := impl.StateNew(topo, vec(3, 3, 3), draw.Intn(4))
		if !ok {
			t.Fatalf("StateNew of %v is false", topo)
		}
		for range 40 {
			command := everyCommand[draw.Intn(len(everyCommand))]
			if draw.Intn(2) == 0 {
				command = drawnSubmit
			}
			c := command(draw, s)
			if c.code != c.wanted || !sameState(c.got, c.want) {
				t.Fatalf("%s in %+v is %s, not %s", c.name, s, codeText(c.got, c.code), codeText(c.want, c.wanted))
			}
			if c.code == 0 {
				s = c.got
			}
			if later := impl.Later(s); !sameHeld(later, laterOf(s)) {
				t.Fatalf("Later(%+v) is %v", s, later)
			}
			most, ran = max(most, len(s.Queue)), max(ran, len(s.Runs))
		}
	}
	if most < 6 || ran < 6 {
		t.Errorf("at most %d wait and %d run: too few to tell", most, ran)
	}
}

// canNow asks whether the job could start at once.
func canNow(s impl.State, j impl.Job) bool {
	r, ok := impl.RoomOf(s)
	when, _, goes := impl.Earliest(r, j, s.Now)
	return ok && goes && when == s.Now
}

func TestTheFirstThatWaitsCouldNotStart(t *testing.T) {
	draw := rand.New(rand.NewSource(54))
	waits := 0
	for _, s := range drawnStates(55) {
		for range 4 {
			for _, command := range everyCommand[:5] {
				c := command(draw, s)
				order := impl.Order(c.got.Queue)
				if c.code != 0 || len(order) == 0 {
					continue
				}
				waits++
				if canNow(c.got, order[0]) {
					t.Errorf("behind %s in %+v is %s, but %d could start", c.name, s, stateText(c.got), order[0].Id)
				}
			}
		}
	}
	if waits < 1000 {
		t.Errorf("%d times one waits: too few to tell", waits)
	}
}

func TestOneThatComesFirstAndCanStartStarts(t *testing.T) {
	draw := rand.New(rand.NewSource(56))
	can, not := 0, 0
	for _, s := range drawnStates(57) {
		for range 12 {
			j := drawnJob(draw)
			j.Prio = 4
			got, code := impl.Submit(s, j)
			if code != 0 {
				continue
			}
			runs := slices.IndexFunc(got.Runs, func(r impl.Run) bool { return r.Job == j && r.At == s.Now })
			if can++; canNow(s, j) != (runs >= 0) {
				t.Errorf("Submit(%+v, %+v) is %s", s, j, stateText(got))
			}
			if runs >= 0 && runs != len(s.Runs) {
				t.Errorf("Submit(%+v, %+v) is %s: it comes first, but doesn't start first", s, j, stateText(got))
			}
			if runs < 0 {
				can--
				not++
			}
		}
	}
	if can < 300 || not < 300 {
		t.Errorf("%d can start, %d can't: too few to tell", can, not)
	}
}

// leftOut is the state without the job, which may wait or run.
func leftOut(s impl.State, id int) impl.State {
	q := stateCopy(s)
	q.Queue = slices.DeleteFunc(q.Queue, func(j impl.Job) bool { return j.Id == id })
	q.Runs = slices.DeleteFunc(q.Runs, func(r impl.Run) bool { return r.Job.Id == id })
	return q
}

func TestAJobOfLowerRankChangesNothing(t *testing.T) {
	draw := rand.New(rand.NewSource(58))
	ran, waits := 0, 0
	for _, s := range drawnStates(59) {
		for i := range s.Queue {
			s.Queue[i].Prio++
		}
		alone, later := impl.Start(s), impl.Later(impl.Start(s))
		for range 8 {
			j := drawnJob(draw)
			j.Prio = 0
			got, code := impl.Submit(s, j)
			if code != 0 {
				continue
			}
			if !sameState(leftOut(got, j.Id), alone) {
				t.Errorf("Submit(%+v, %+v) is %s, Start %s", s, j, stateText(got), stateText(alone))
			}
			if jobWithId(got.Queue, j.Id).Id == 0 {
				ran++
				continue
			}
			if waits++; !sameHeld(without(impl.Later(got), j.Id), later) {
				t.Errorf("Later behind Submit(%+v, %+v) is %v, else %v", s, j, impl.Later(got), later)
			}
		}
	}
	if ran < 200 || waits < 200 {
		t.Errorf("%d run, %d wait: too few to tell", ran, waits)
	}
}

func TestSubmitByHand(t *testing.T) {
	end := impl.MaxTime
	one := func(id int) impl.Job { return planJob(id, 0, 1, 10, 0) }
	lic := func(n int) impl.Job { return withLic(one(7), vec(0, 0, n)) }
	down := stateAt(3)
	down.Up = []bool{false, false, false}
	full, sixty := fullState(59), fullState(60)
	wrong := busy()
	wrong.Depth = 61
	for name, c := range map[string]struct {
		s    impl.State
		j    impl.Job
		want string
	}{
		"it starts":                            {stateAt(3), one(7), "3: | 7@3[2] | |"},
		"it waits":                             {stateAt(3, runOf(planJob(1, 0, 3, 9, 1), 3, 0, 1, 2)), one(7), "3: 7 | 1@3[0 1 2] | |"},
		"it is last, and waits":                {busy(), planJob(7, 0, 1, 10, 0), "5: 3 4 7 | 1@0[0] 2@5[1 2] | 5@0/2 6@5/4 |"},
		"another starts with it":               {waiting(3, []impl.Job{one(9)}), one(7), "3: | 7@3[2] 9@3[0] | |"},
		"an Id that ended":                     {busy(), planJob(5, 9, 1, 1, 0), "5: 3 4 5 | 1@0[0] 2@5[1 2] | 5@0/2 6@5/4 |"},
		"all nodes down":                       {down, planJob(7, 0, 3, 10, 1), "3: 7 | | | 0 1 2"},
		"all licences":                         {stateAt(0), lic(4), "0: | 7@0[2] | |"},
		"more than all licences":               {stateAt(0), lic(5), "code 4"},
		"all licences, some are taken":         {stateAt(0, runOf(withLic(one(1), vec(0, 0, 1)), 0, 2)), lic(4), "0: 7 | 1@0[2] | |"},
		"more nodes than there are":            {stateAt(0), planJob(7, 0, 4, 10, 1), "code 4"},
		"more nodes than below such a switch":  {stateAt(0), planJob(7, 0, 3, 10, 0), "code 4"},
		"more cores than on a node":            {stateAt(0), impl.Job{Id: 7, Nodes: 1, Need: vec(5, 0, 0), Wall: 1}, "code 4"},
		"all of a node":                        {stateAt(0), impl.Job{Id: 7, Nodes: 1, Need: vec(4, 4, 4), Wall: 1}, "0: | 7@0[2] | |"},
		"the longest time":                     {stateAt(0), planJob(7, 0, 1, 1000000, 0), "0: | 7@0[2] | |"},
		"too late to start":                    {stateAt(end - 5), one(7), fmt.Sprint(end-5, ": 7 | | |")},
		"just in time":                         {stateAt(end - 10), one(7), fmt.Sprintf("%d: | 7@%d[2] | |", end-10, end-10)},
		"at the end":                           {stateAt(end), planJob(7, 0, 1, 1, 0), fmt.Sprint(end, ": 7 | | |")},
		"it waits already":                     {busy(), one(4), "code 2"},
		"it runs already":                      {busy(), one(2), "code 2"},
		"a state that isn't right":             {wrong, one(7), "code 1"},
		"a job that isn't right":               {busy(), impl.Job{Id: 7, Nodes: 1}, "code 1"},
		"a job that isn't right, and is there": {busy(), impl.Job{Id: 2, Nodes: 1}, "code 1"},
		"it is there, and could never start":   {busy(), planJob(2, 0, 24, 10, 0), "code 2"},
		"there, among 60, could never start":   {sixty, planJob(60, 0, 24, 10, 0), "code 2"},
		"one more than 60":                     {sixty, impl.Job{Id: 61, Nodes: 1, Wall: 1}, "code 3"},
		"one more than 60, could never start":  {sixty, planJob(61, 0, 24, 10, 0), "code 3"},
		"the 60th, could never start":          {full, planJob(61, 0, 24, 10, 0), "code 4"},
	} {
		got, code := impl.Submit(c.s, c.j)
		if text := codeText(got, code); text != c.want {
			t.Errorf("%s: Submit is %s, not %s", name, text, c.want)
		}
		if want, wanted := submitOf(c.s, c.j); code != wanted || !sameState(got, want) {
			t.Errorf("%s: Submit is %+v, %d", name, got, code)
		}
	}
	got, code := impl.Submit(full, impl.Job{Id: 60, Nodes: 24, Need: vec(1, 0, 0), Wall: 1, Level: 1})
	if code != 0 || len(got.Queue) != 36 || len(got.Runs) != 24 || got.Queue[35].Id != 60 {
		t.Errorf("the 60th: Submit is %s", codeText(got, code))
	}
}

func TestFinishByHand(t *testing.T) {
	all := func(ends int) impl.State {
		s := busy()
		s.Ends = manyEnds(ends)
		return s
	}
	wrong := busy()
	wrong.Up[0] = false
	twice := waiting(3, []impl.Job{planJob(4, 0, 1, 9, 0), planJob(5, 9, 3, 9, 1), planJob(6, 0, 1, 9, 0)}, runOf(planJob(1, 0, 1, 9, 0), 0, 0), runOf(planJob(2, 0, 1, 9, 0), 1, 1), runOf(planJob(3, 0, 1, 9, 0), 2, 2))
	for name, c := range map[string]struct {
		s       impl.State
		id, why int
		want    string
	}{
		"done":                                 {busy(), 1, 2, "5: 3 4 | 2@5[1 2] | 5@0/2 6@5/4 1@5/2 |"},
		"cancelled while it runs":              {busy(), 2, 3, "5: 3 | 1@0[0] 4@5[1] | 5@0/2 6@5/4 2@5/3 |"},
		"cancelled while it waits":             {busy(), 4, 3, "5: 3 | 1@0[0] 2@5[1 2] | 5@0/2 6@5/4 4@5/3 |"},
		"the first that waits":                 {busy(), 3, 3, "5: 4 | 1@0[0] 2@5[1 2] | 5@0/2 6@5/4 3@5/3 |"},
		"done while it waits":                  {busy(), 4, 2, "code 5"},
		"no such job is done":                  {busy(), 5, 2, "code 5"},
		"no such job is cancelled":             {busy(), 5, 3, "code 5"},
		"the Id 0 is done":                     {busy(), 0, 2, "code 5"},
		"the Id 0 is cancelled":                {busy(), 0, 3, "code 5"},
		"the Id -1":                            {busy(), -1, 3, "code 5"},
		"the least Id":                         {busy(), math.MinInt, 3, "code 5"},
		"the greatest Id":                      {busy(), math.MaxInt, 3, "code 5"},
		"the Why 1":                            {busy(), 1, 1, "code 1"},
		"the Why 4":                            {busy(), 1, 4, "code 1"},
		"the Why 0":                            {busy(), 1, 0, "code 1"},
		"the Why 5":                            {busy(), 1, 5, "code 1"},
		"the Why -1":                           {busy(), 1, -1, "code 1"},
		"another Why, and no such job":         {busy(), 9, 4, "code 1"},
		"a state that isn't right":             {wrong, 1, 2, "code 1"},
		"a state that isn't right, no job":     {wrong, 9, 2, "code 1"},
		"300 ends":                             {all(300), 1, 2, "code 6"},
		"300 ends, cancelled while it waits":   {all(300), 3, 3, "code 6"},
		"300 ends, and no such job":            {all(300), 9, 2, "code 5"},
		"300 ends, and it waits":               {all(300), 3, 2, "code 5"},
		"300 ends, another Why":                {all(300), 1, 1, "code 1"},
		"one that is in the middle":            {twice, 2, 2, "3: 4 5 6 | 1@0[0] 3@2[2] | 2@3/2 |"},
		"what stood in the way is cancelled":   {twice, 5, 3, "3: 4 6 | 1@0[0] 2@1[1] 3@2[2] | 5@3/3 |"},
		"one of three that runs":               {leftOut(twice, 5), 2, 2, "3: 6 | 1@0[0] 3@2[2] 4@3[1] | 2@3/2 |"},
		"nothing starts where none ended":      {leftOut(twice, 5), 5, 3, "code 5"},
		"another starts when one is cancelled": {waiting(3, []impl.Job{planJob(4, 0, 1, 9, 0), planJob(5, 0, 1, 9, 0)}), 4, 3, "3: | 5@3[2] | 4@3/3 |"},
	} {
		got, code := impl.Finish(c.s, c.id, c.why)
		if text := codeText(got, code); text != c.want {
			t.Errorf("%s: Finish is %s, not %s", name, text, c.want)
		}
	}
	got, code := impl.Finish(all(299), 1, impl.WhyDone)
	if code != 0 || len(got.Ends) != 300 || got.Ends[299] != (impl.End{Id: 1, At: 5, Why: 2}) {
		t.Errorf("the last of 300: Finish is %s", codeText(got, code))
	}
}

func TestFailByHand(t *testing.T) {
	// Two that run share the node 0, a third has all but it.
	small := func(id int) impl.Job { return impl.Job{Id: id, Nodes: 1, Need: vec(2, 1, 1), Wall: 20} }
	two := func(ends int) impl.State {
		s := stateAt(5, runOf(small(9), 1, 0), runOf(planJob(4, 0, 2, 9, 1), 2, 1, 2), runOf(small(2), 3, 0))
		s.Queue, s.Ends = []impl.Job{planJob(6, 0, 3, 5, 1)}, manyEnds(ends)
		return s
	}
	down := two(0)
	down.Up[0], down.Runs = false, down.Runs[1:2]
	wrong := two(0)
	wrong.Lic = vec(-1, 0, 0)
	ahead := waiting(5, []impl.Job{planJob(3, 0, 1, 5, 0)}, runOf(planJob(1, 0, 2, 9, 0), 2, 0, 1), runOf(planJob(2, 0, 1, 9, 0), 2, 2))
	none := stateAt(0)
	none.Topo, none.Up = impl.Topo{Parents: []int{0}}, nil
	for name, c := range map[string]struct {
		s    impl.State
		n    int
		want string
	}{
		"two runs on it":                    {two(0), 0, "5: 6 9 2 | 4@2[1 2] | 9@5/4 2@5/4 | 0"},
		"one run on it and another node":    {two(0), 1, "5: 6 4 | 9@1[0] 2@3[0] | 4@5/4 | 1"},
		"the last of its nodes":             {two(0), 2, "5: 6 4 | 9@1[0] 2@3[0] | 4@5/4 | 2"},
		"nothing runs on it":                {stateAt(5, runOf(small(9), 1, 0)), 1, "5: | 9@1[0] | | 1"},
		"it starts anew elsewhere":          {stateAt(5, runOf(small(9), 1, 0)), 0, "5: | 9@5[1] | 9@5/4 | 0"},
		"one ahead of it starts":            {ahead, 0, "5: 1 | 2@2[2] 3@5[1] | 1@5/4 | 0"},
		"one that waited stays ahead of it": {ahead, 2, "5: 3 2 | 1@2[0 1] | 2@5/4 | 2"},
		"one starts where nothing ran":      {waiting(5, []impl.Job{planJob(3, 0, 1, 5, 0)}), 2, "5: | 3@5[0] | | 2"},
		"the first that ran comes first":    {stateAt(5, runOf(small(9), 1, 0), runOf(small(2), 3, 0)), 0, "5: | 2@5[1] 9@5[1] | 9@5/4 2@5/4 | 0"},
		"it isn't up":                       {down, 0, "code 7"},
		"the node -1":                       {two(0), -1, "code 7"},
		"the node 3":                        {two(0), 3, "code 7"},
		"the least node":                    {two(0), math.MinInt, "code 7"},
		"the greatest node":                 {two(0), math.MaxInt, "code 7"},
		"no nodes":                          {none, 0, "code 7"},
		"a state that isn't right":          {wrong, 0, "code 1"},
		"a state that isn't right, no node": {wrong, 7, "code 1"},
		"one end too many":                  {two(299), 0, "code 6"},
		"two ends too many":                 {two(300), 0, "code 6"},
		"one end too many by one run":       {two(300), 1, "code 6"},
		"300 ends, and no node":             {two(300), 3, "code 7"},
		"nothing runs on no nodes at all":   {stateAt(0), 0, "0: | | | 0"},
	} {
		got, code := impl.Fail(c.s, c.n)
		if text := codeText(got, code); text != c.want {
			t.Errorf("%s: Fail is %s, not %s", name, text, c.want)
		}
		if want, wanted := failOf(c.s, c.n); code != wanted || !sameState(got, want) {
			t.Errorf("%s: Fail is %+v, %d", name, got, code)
		}
	}
	for n, ends := range map[int]int{0: 298, 1: 299} {
		if got, code := impl.Fail(two(ends), n); code != 0 || len(got.Ends) != 300 {
			t.Errorf("just 300 ends: Fail of %d is %s", n, codeText(got, code))
		}
	}
	quiet := stateAt(5)
	quiet.Ends = manyEnds(300)
	if got, code := impl.Fail(quiet, 0); code != 0 || len(got.Ends) != 300 {
		t.Errorf("300 ends and nothing runs: Fail is %s", codeText(got, code))
	}
}

func TestResumeByHand(t *testing.T) {
	down := func(nodes ...int) impl.State {
		s := waiting(5, []impl.Job{planJob(1, 0, 2, 9, 0), planJob(2, 9, 1, 9, 0)})
		for _, n := range nodes {
			s.Up[n] = false
		}
		return s
	}
	wrong := down(0)
	wrong.Now = -1
	none := stateAt(0)
	none.Topo, none.Up = impl.Topo{Parents: []int{0}}, nil
	full := down(0, 1, 2)
	full.Ends = manyEnds(300)
	for name, c := range map[string]struct {
		s    impl.State
		n    int
		want string
	}{
		"one starts":                        {down(0, 1, 2), 2, "5: 1 | 2@5[2] | | 0 1"},
		"two start":                         {down(0), 0, "5: | 2@5[2] 1@5[0 1] | |"},
		"another that doesn't do for two":   {down(0, 1, 2), 0, "5: 1 | 2@5[0] | | 1 2"},
		"it is up":                          {down(0), 1, "code 8"},
		"the node -1":                       {down(0), -1, "code 8"},
		"the node 3":                        {down(0), 3, "code 8"},
		"the least node":                    {down(0), math.MinInt, "code 8"},
		"the greatest node":                 {down(0), math.MaxInt, "code 8"},
		"no nodes":                          {none, 0, "code 8"},
		"a state that isn't right":          {wrong, 0, "code 1"},
		"a state that isn't right, no node": {wrong, 3, "code 1"},
	} {
		got, code := impl.Resume(c.s, c.n)
		if text := codeText(got, code); text != c.want {
			t.Errorf("%s: Resume is %s, not %s", name, text, c.want)
		}
	}
	if got, code := impl.Resume(full, 1); code != 0 || len(got.Ends) != 300 || !got.Up[1] {
		t.Errorf("300 ends: Resume is %s", codeText(got, code))
	}
}

func TestResizeByHand(t *testing.T) {
	lic := func(id, n int) impl.Job { return withLic(planJob(id, 0, 1, 10, 0), vec(n, 0, 0)) }
	s := waiting(5, []impl.Job{lic(3, 3), lic(4, 1)}, runOf(lic(1, 1), 0, 0), runOf(lic(2, 1), 1, 1))
	s.Depth = 0
	wrong := stateCopy(s)
	wrong.Ends = []impl.End{{Id: 1, At: 6, Why: 1}}
	for name, c := range map[string]struct {
		s    impl.State
		lic  impl.Vec
		want string
	}{
		"as it was":                         {s, vec(2, 2, 2), "5: 3 4 | 1@0[0] 2@1[1] | |"},
		"one more":                          {s, vec(3, 2, 2), "5: 3 | 1@0[0] 2@1[1] 4@5[2] | |"},
		"three more, the first one starts":  {s, vec(5, 0, 0), "5: 4 | 1@0[0] 2@1[1] 3@5[2] | |"},
		"just what runs":                    {s, vec(2, 0, 0), "5: 3 4 | 1@0[0] 2@1[1] | |"},
		"one less than what runs":           {s, vec(1, 1000000, 1000000), "code 9"},
		"none":                              {s, vec(0, 0, 0), "code 9"},
		"none, and nothing runs":            {waiting(5, []impl.Job{lic(3, 3)}), vec(0, 0, 0), "5: 3 | | |"},
		"the most":                          {s, vec(1000000, 1000000, 1000000), "5: 4 | 1@0[0] 2@1[1] 3@5[2] | |"},
		"one more than the most":            {s, vec(1000001, 2, 2), "code 1"},
		"one more than the most of C":       {s, vec(2, 2, 1000001), "code 1"},
		"below 0":                           {s, vec(2, -1, 2), "code 1"},
		"too few, and not right":            {s, vec(0, -1, 0), "code 1"},
		"a state that isn't right":          {wrong, vec(2, 2, 2), "code 1"},
		"a state that isn't right, too few": {wrong, vec(0, 0, 0), "code 1"},
	} {
		got, code := impl.Resize(c.s, c.lic)
		if text := codeText(got, code); text != c.want {
			t.Errorf("%s: Resize is %s, not %s", name, text, c.want)
		}
		if code == 0 && got.Lic != c.lic {
			t.Errorf("%s: Resize has %v", name, got.Lic)
		}
	}
}

func TestLater(t *testing.T) {
	told := 0
	for _, s := range drawnStates(60) {
		got := impl.Later(s)
		if !sameHeld(got, laterOf(s)) || len(got) > s.Depth {
			t.Errorf("Later(%+v) is %v", s, got)
		}
		told += len(got)
	}
	if told < 60 {
		t.Errorf("%d are told: too few to tell", told)
	}
	end := impl.MaxTime
	run := runOf(planJob(9, 0, 1, 9, 0), 2, 0)
	big, small := planJob(1, 5, 3, 10, 1), planJob(2, 0, 1, 10, 0)
	for name, c := range map[string]struct {
		s     impl.State
		depth int
		want  string
	}{
		"nothing waits":                   {stateAt(5, run), 1, ""},
		"one waits":                       {waiting(5, []impl.Job{big}, run), 1, "1@11[0 1 2]"},
		"depth 0":                         {waiting(5, []impl.Job{big}, run), 0, ""},
		"one that could start isn't told": {waiting(5, []impl.Job{small}, run), 1, ""},
		"and what is behind it is told":   {waiting(5, []impl.Job{small, planJob(4, 0, 3, 10, 1)}, run), 1, "4@15[0 1 2]"},
		"two":                             {waiting(5, []impl.Job{planJob(4, 0, 2, 10, 0), big}, run), 2, "1@11[0 1 2] 4@21[0 1]"},
		"two, but one reservation":        {waiting(5, []impl.Job{planJob(4, 0, 2, 10, 0), big}, run), 1, "1@11[0 1 2]"},
		"depth 60":                        {waiting(5, []impl.Job{planJob(4, 0, 2, 10, 0), big}, run), 60, "1@11[0 1 2] 4@21[0 1]"},
		"one that can never start":        {waiting(5, []impl.Job{planJob(4, 0, 4, 10, 1)}, run), 60, ""},
		"just up to the end":              {waiting(end-11, []impl.Job{big}, runOf(planJob(9, 0, 1, 9, 0), end-19, 0)), 1, fmt.Sprintf("1@%d[0 1 2]", end-10)},
		"one beyond the end":              {waiting(end-11, []impl.Job{big}, runOf(planJob(9, 0, 1, 9, 0), end-18, 0)), 1, ""},
	} {
		c.s.Depth = c.depth
		if got := heldText(impl.Later(c.s)); got != c.want {
			t.Errorf("%s: Later is %s, not %s", name, got, c.want)
		}
	}
}

// wrongStates has every state that isn't right.
func wrongStates() map[string]impl.State {
	l := withoutRoom()
	for name, s := range wrongWithRoom() {
		l[name] = s
	}
	return l
}

func TestOfWrongStates(t *testing.T) {
	for name, s := range wrongStates() {
		say := func(ok bool, what string) {
			if !ok {
				t.Errorf("%s: %s", name, what)
			}
		}
		say(noState(impl.Start(s)), "Start")
		say(impl.NextEnd(s) == -1, "NextEnd")
		say(len(impl.Later(s)) == 0, "Later")
		for _, when := range []int{s.Now, 0, 5, 6, 100, impl.MaxTime} {
			say(untilText(impl.Until(s, when)) == "false", "Until")
		}
		for _, j := range []impl.Job{planJob(50, 0, 1, 5, 1), planJob(1, 0, 24, 5, 0), {}} {
			say(codeText(impl.Submit(s, j)) == "code 1", "Submit")
		}
		for _, why := range []int{2, 3, 4} {
			for _, id := range []int{1, 3, 50} {
				say(codeText(impl.Finish(s, id, why)) == "code 1", "Finish")
			}
		}
		for _, n := range []int{-1, 0, 1, 2, 3} {
			say(codeText(impl.Fail(s, n)) == "code 1", "Fail")
			say(codeText(impl.Resume(s, n)) == "code 1", "Resume")
		}
		for _, lic := range []impl.Vec{{}, vec(4, 4, 4), vec(-1, 0, 0)} {
			say(codeText(impl.Resize(s, lic)) == "code 1", "Resize")
		}
	}
}

func TestSubmitOfWrongJobs(t *testing.T) {
	for i, j := range wrongJobs() {
		if got := codeText(impl.Submit(busy(), j)); got != "code 1" {
			t.Errorf("the wrong job %d: Submit is %s", i, got)
		}
	}
}

func TestResizeOfWrongLicences(t *testing.T) {
	for _, lic := range vecsOf(edges) {
		want := 1
		if vecRight(lic) {
			want = 9
			if lic.A >= 3 {
				want = 0
			}
		}
		if _, code := impl.Resize(busy(), lic); code != want {
			t.Errorf("Resize to %v is %d, not %d", lic, code, want)
		}
	}
}

// stateLists has for each list of the state what writes all over it, up to its capacity; the lists of nodes first.
func stateLists(s impl.State) []func() {
	var l []func()
	for _, run := range s.Runs {
		l = append(l, func() { writeOver(run.Nodes, -7) })
	}
	return append(l,
		func() { writeOver(s.Topo.Parents, -7) },
		func() { writeOver(s.Topo.Nodes, impl.Node{Leaf: -7}) },
		func() { writeOver(s.Up, true) },
		func() { writeOver(s.Up, false) },
		func() { writeOver(s.Queue, impl.Job{Id: -7}) },
		func() { writeOver(s.Ends, impl.End{Id: -7}) },
		func() { writeOver(s.Runs, impl.Run{At: -7}) },
	)
}

// sharedState has lists with memory behind them; runs on the same nodes have the very same list.
func sharedState(s impl.State) impl.State {
	q := s
	q.Topo = impl.Topo{Parents: withRoomBehind(s.Topo.Parents, -3), Nodes: withRoomBehind(s.Topo.Nodes, impl.Node{Leaf: -3})}
	q.Up, q.Queue, q.Ends = withRoomBehind(s.Up, true), withRoomBehind(s.Queue, impl.Job{Id: -3}), withRoomBehind(s.Ends, impl.End{Id: -3})
	q.Runs = nil
	for i, run := range s.Runs {
		nodes := withRoomBehind(run.Nodes, -3)
		if same := slices.IndexFunc(s.Runs, func(r impl.Run) bool { return slices.Equal(r.Nodes, run.Nodes) }); same < i {
			nodes = q.Runs[same].Nodes
		}
		q.Runs = append(q.Runs, impl.Run{Job: run.Job, At: run.At, Nodes: nodes})
	}
	q.Runs = withRoomBehind(q.Runs, impl.Run{At: -3})
	return q
}

// wholeState is the state with all that lies behind its lists.
func wholeState(s impl.State) impl.State {
	q := s
	q.Topo = impl.Topo{Parents: s.Topo.Parents[:cap(s.Topo.Parents)], Nodes: s.Topo.Nodes[:cap(s.Topo.Nodes)]}
	q.Up, q.Queue, q.Ends = s.Up[:cap(s.Up)], s.Queue[:cap(s.Queue)], s.Ends[:cap(s.Ends)]
	q.Runs = nil
	for _, run := range s.Runs[:cap(s.Runs)] {
		q.Runs = append(q.Runs, impl.Run{Job: run.Job, At: run.At, Nodes: run.Nodes[:cap(run.Nodes)]})
	}
	return q
}

// statesToShare has the first of the drawn states, some with runs on the same nodes.
func statesToShare() []impl.State {
	small := func(id int) impl.Job { return impl.Job{Id: id, Nodes: 2, Need: vec(1, 1, 1), Wall: 20, Level: 1} }
	s := stateAt(5, runOf(small(1), 1, 0, 2), runOf(small(2), 2, 0, 2), runOf(small(3), 5, 0, 2))
	s.Queue = []impl.Job{planJob(7, 1, 3, 5, 1), small(8), small(9)}
	s.Up[1] = false
	l := []impl.State{s, busy()}
	for i, s := range drawnStates(61) {
		if i%5 == 0 {
			l = append(l, s)
		}
	}
	return l
}

// stateAnswers has the states that are worked out of s.
func stateAnswers(s impl.State) []impl.State {
	l := []impl.State{impl.Start(s)}
	for _, by := range []int{0, 1, 3, 20} {
		u, _ := impl.Until(s, s.Now+by)
		l = append(l, u)
	}
	one, _ := impl.Submit(s, impl.Job{Id: 990, Prio: 9, Nodes: 1, Wall: 1, Level: 3})
	two, _ := impl.Submit(s, impl.Job{Id: 991, Prio: 0, Nodes: 2, Need: vec(1, 0, 0), Wall: 9, Level: 3})
	l = append(l, one, two)
	for _, j := range jobsOf(s) {
		done, _ := impl.Finish(s, j.Id, impl.WhyDone)
		gone, _ := impl.Finish(s, j.Id, impl.WhyCancel)
		l = append(l, done, gone)
	}
	for n := range s.Up {
		down, _ := impl.Fail(s, n)
		up, _ := impl.Resume(s, n)
		l = append(l, down, up)
	}
	more, _ := impl.Resize(s, vec(9, 9, 9))
	fresh, _ := impl.StateNew(s.Topo, s.Lic, s.Depth)
	return append(l, more, fresh)
}

func TestStatesAreLeftAlone(t *testing.T) {
	for _, state := range statesToShare() {
		s := sharedState(state)
		kept := stateCopy(wholeState(s))
		for _, answer := range stateAnswers(s) {
			for _, write := range stateLists(answer) {
				write()
			}
		}
		r, _ := impl.RoomOf(s)
		for _, write := range roomLists(r) {
			write()
		}
		for _, write := range planLists(nil, impl.Later(s)) {
			write()
		}
		impl.StateOk(s)
		impl.NextEnd(s)
		if !reflect.DeepEqual(wholeState(s), kept) {
			t.Errorf("%+v has become %+v", kept, wholeState(s))
		}
	}
}

func TestNoTwoListsOfAStateShareMemory(t *testing.T) {
	lists := 0
	for _, state := range statesToShare() {
		s := sharedState(state)
		for i, more := 0, true; more; i++ {
			more = false
			for k, answer := range stateAnswers(s) {
				if i >= len(stateLists(answer)) {
					continue
				}
				want := stateCopy(answer)
				stateLists(answer)[i]()
				// The same is written over in the copy, which shares nothing.
				stateLists(want)[i]()
				if !sameState(answer, want) {
					t.Errorf("the answer %d of %+v: its list %d shares memory with another", k, s, i)
				}
				more = true
				lists++
			}
		}
		r, _ := impl.RoomOf(s)
		for i := range roomLists(r) {
			got, _ := impl.RoomOf(s)
			want := roomCopy(got)
			roomLists(got)[i]()
			roomLists(want)[i]()
			if !sameRoom(got, want) {
				t.Errorf("RoomOf(%+v): its list %d shares memory with another", s, i)
			}
		}
		for i := range planLists(nil, impl.Later(s)) {
			got := impl.Later(s)
			want := heldCopy(got)
			planLists(nil, got)[i]()
			planLists(nil, want)[i]()
			if !sameHeld(got, want) {
				t.Errorf("Later(%+v): its list %d shares memory with another", s, i)
			}
		}
	}
	if lists < 3000 {
		t.Errorf("%d lists: too few to tell", lists)
	}
}

func TestStateAnswersAreKeptByNobody(t *testing.T) {
	for _, s := range statesToShare() {
		once, again := stateAnswers(s), stateAnswers(s)
		for _, answer := range once {
			for _, write := range stateLists(answer) {
				write()
			}
		}
		later := impl.Later(s)
		want := heldCopy(later)
		for _, write := range planLists(nil, later) {
			write()
		}
		if !slices.EqualFunc(again, stateAnswers(s), sameState) || !sameHeld(impl.Later(s), want) {
			t.Errorf("the answers of %+v have changed", s)
		}
	}
}

// Runs lie in a map, but what is told doesn't hang on the order in which a map is gone through.
func TestStateAnswersAreAlwaysTheSame(t *testing.T) {
	s := fullState(60)
	for i := range s.Runs {
		s.Runs[i].Job.Wall = 10 + i%3
	}
	first, ok := impl.Until(s, 12)
	fails, code := impl.Fail(s, 7)
	if !ok || code != 0 || len(first.Ends) < 24 {
		t.Fatalf("Until is %s, %v, Fail %s", stateText(first), ok, codeText(fails, code))
	}
	for range 50 {
		again, _ := impl.Until(s, 12)
		failed, _ := impl.Fail(s, 7)
		if !sameState(again, first) || !sameState(failed, fails) {
			t.Fatalf("Until is %s, then %s; Fail %s, then %s", stateText(first), stateText(again), stateText(fails), stateText(failed))
		}
	}
	want, _ := untilOf(s, 12)
	if !sameState(first, want) {
		t.Errorf("Until is %s, not %s", stateText(first), stateText(want))
	}
}
