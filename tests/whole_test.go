package tests

import (
	"bytes"
	"fmt"
	"math"
	"math/rand"
	"reflect"
	"regexp"
	"slices"
	"strconv"
	"strings"
	"testing"

	"loop.example/g00454/impl"
)

// worldRight is what the document says of WorldOk.
func worldRight(w impl.World) bool {
	if !firstRight(w.First) {
		return false
	}
	if w.Up {
		return ctlRight(w.Ctl) && sameState(w.Ctl.First, w.First) && len(w.Bytes) == 0
	}
	_, code := foundOf(w.First, w.Bytes)
	return noCtl(w.Ctl) && code == 0
}

// stepOf is Do in a right world.
func stepOf(w impl.World, s impl.Step) impl.World {
	answer := func(code int) { w.Codes = append(slices.Clone(w.Codes), code) }
	switch {
	case s.Kind == 1 && w.Up:
		c, code := takeOf(w.Ctl, s.Cmd)
		answer(code)
		if code == 0 {
			w.Ctl = c
		}
	case s.Kind == 2 && w.Up:
		b, code := tornOf(w.Ctl, s.Cmd, s.Keep)
		answer(code)
		if code == 0 {
			w.Up, w.Ctl, w.Bytes = false, impl.Ctl{}, b
		}
	case s.Kind == 3 && w.Up:
		w.Up, w.Ctl, w.Bytes = false, impl.Ctl{}, w.Ctl.Journal.Bytes
	case s.Kind == 4 && !w.Up:
		c, _ := foundOf(w.First, w.Bytes)
		w.Up, w.Ctl, w.Bytes = true, c, nil
	}
	return w
}

func doOf(w impl.World, s impl.Step) impl.World {
	if !worldRight(w) {
		return impl.World{}
	}
	return stepOf(w, s)
}

func sameWorld(a, b impl.World) bool {
	return a.Up == b.Up && sameState(a.First, b.First) && sameCtl(a.Ctl, b.Ctl) && bytes.Equal(a.Bytes, b.Bytes) && slices.Equal(a.Codes, b.Codes)
}

func noWorld(w impl.World) bool { return sameWorld(w, impl.World{}) }

func worldCopy(w impl.World) impl.World {
	return impl.World{Up: w.Up, First: stateCopy(w.First), Ctl: ctlCopy(w.Ctl), Bytes: slices.Clone(w.Bytes), Codes: slices.Clone(w.Codes)}
}

func worldText(w impl.World) string {
	if noWorld(w) {
		return "nothing"
	}
	return fmt.Sprintf("up %v first %s, %s, bytes %.200q, codes %v", w.Up, stateText(w.First), ctlText(w.Ctl), w.Bytes, w.Codes)
}

func stepTextOf(s impl.Step) string {
	cmd, keep := cmdTextOf(s.Cmd), s.Keep >= 0 && s.Keep <= 1000000000
	switch {
	case s.Kind == 1 && cmd != "" && s.Keep == 0:
		return "do " + cmd
	case s.Kind == 2 && cmd != "" && keep:
		return fmt.Sprint("torn ", s.Keep, " ", cmd)
	case s == impl.Step{Kind: 3}:
		return "crash"
	case s == impl.Step{Kind: 4}:
		return "start"
	}
	return ""
}

var (
	doForm    = regexp.MustCompile(`(?s)\Ado (.*)\z`)
	tornForm  = regexp.MustCompile(`(?s)\Atorn ` + numberForm + ` (.*)\z`)
	beginForm = regexp.MustCompile(`\Abegin (` + slashForm + `) ` + numberForm + `\z`)
)

// formStep reads a text by its form, the command in it by its own.
func formStep(s string) (impl.Step, bool) {
	var step impl.Step
	cmd := ""
	if l := doForm.FindStringSubmatch(s); l != nil {
		step.Kind, cmd = 1, l[1]
	} else if l := tornForm.FindStringSubmatch(s); l != nil {
		keep, err := strconv.Atoi(l[1])
		if err != nil || keep > 1000000000 {
			return impl.Step{}, false
		}
		step.Kind, step.Keep, cmd = 2, keep, l[2]
	} else if s == "crash" || s == "start" {
		return impl.Step{Kind: map[string]int{"crash": 3, "start": 4}[s]}, true
	}
	c, ok := formCmd(cmd)
	if !ok {
		return impl.Step{}, false
	}
	step.Cmd = c
	return step, true
}

// formBegin reads the line behind those of the topology.
func formBegin(topo, begin string) (impl.State, bool) {
	t, ok := formTopo(topo)
	l := beginForm.FindStringSubmatch(begin)
	if !ok || l == nil {
		return impl.State{}, false
	}
	lic, ok := formVec(l[1])
	depth, err := strconv.Atoi(l[len(l)-1])
	if !ok || err != nil || depth > 60 {
		return impl.State{}, false
	}
	s := impl.State{Topo: t, Lic: lic, Depth: depth}
	for range t.Nodes {
		s.Up = append(s.Up, true)
	}
	return s, true
}

// readOf is the first world and the steps that a text tells of, and the number of the line that is wrong.
func readOf(text string) (impl.World, []impl.Step, int) {
	if len(text) > 12000 {
		return impl.World{}, nil, 1
	}
	lines := strings.Split(text, "\n")
	if lines[len(lines)-1] == "" {
		lines = lines[:len(lines)-1]
	}
	var w impl.World
	var steps []impl.Step
	topo, begun := "", false
	for i, l := range lines {
		if l == "" || l[0] == '#' {
			continue
		}
		if !begun && (strings.HasPrefix(l, "switch ") || strings.HasPrefix(l, "node ")) {
			topo += l + "\n"
			continue
		}
		if !begun {
			first, ok := formBegin(topo, l)
			if !ok {
				return impl.World{}, nil, i + 1
			}
			w, begun = impl.World{First: first}, true
			continue
		}
		s, ok := formStep(l)
		if !ok || len(steps) == 300 {
			return impl.World{}, nil, i + 1
		}
		steps = append(steps, s)
	}
	if !begun {
		return impl.World{}, nil, len(lines) + 1
	}
	return w, steps, 0
}

func performOf(text string) (impl.World, int) {
	w, steps, wrong := readOf(text)
	for _, s := range steps {
		w = stepOf(w, s)
	}
	return w, wrong
}

// numberOf is the empty text of what is no time.
func numberOf(n int) string {
	if n < 0 || n > 1000000000 {
		return ""
	}
	return fmt.Sprint(n)
}

func reportOf(w impl.World) string {
	text := ""
	put := func(word string, numbers ...int) {
		text += word
		for _, n := range numbers {
			text += " " + numberOf(n)
		}
		text += "\n"
	}
	if !w.Up {
		put("down", len(w.Bytes))
		return text
	}
	s := w.Ctl.State
	put("now", s.Now)
	for _, j := range s.Queue {
		put("wait", j.Id)
	}
	for _, r := range s.Runs {
		put("run", append([]int{r.Job.Id, r.At}, r.Nodes...)...)
	}
	for _, e := range s.Ends {
		put("end", e.Id, e.At, e.Why)
	}
	for _, h := range laterOf(s) {
		put("later", append([]int{h.Id, h.At}, h.Nodes...)...)
	}
	return text
}

func useOf(s impl.State, n int) impl.Vec {
	if !stateRight(s) || n < 0 || n >= len(s.Topo.Nodes) {
		return impl.Vec{}
	}
	var v impl.Vec
	for _, r := range s.Runs {
		if slices.Contains(r.Nodes, n) {
			v = vec(v.A+r.Job.Need.A, v.B+r.Job.Need.B, v.C+r.Job.Need.C)
		}
	}
	return v
}

func do(c impl.Cmd) impl.Step { return impl.Step{Kind: impl.StCmd, Cmd: c} }

func torn(c impl.Cmd, keep int) impl.Step { return impl.Step{Kind: impl.StTorn, Cmd: c, Keep: keep} }

var crash, start = impl.Step{Kind: impl.StCrash}, impl.Step{Kind: impl.StStart}

// worldFrom plays the steps in a new world.
func worldFrom(t *testing.T, first impl.State, steps ...impl.Step) impl.World {
	t.Helper()
	w, ok := impl.WorldNew(first)
	if !ok {
		t.Fatalf("WorldNew(%+v) is false", first)
	}
	return impl.Play(w, steps)
}

// drawnStep is most often one that can be done in the world; now and then it has fields that are of no use to its kind.
func drawnStep(draw *rand.Rand, w impl.World) impl.Step {
	s := start
	if w.Up {
		s.Kind = []int{1, 1, 1, 1, 1, 1, 1, 1, 2, 2, 3}[draw.Intn(11)]
	}
	if draw.Intn(10) == 0 {
		s.Kind = draw.Intn(7) - 1
	}
	if s.Kind == 1 || s.Kind == 2 || draw.Intn(12) == 0 {
		s.Cmd = drawnCmd(draw, w.Ctl.State)
	}
	if s.Kind == 2 || draw.Intn(12) == 0 {
		s.Keep = draw.Intn(45) - 3
		if draw.Intn(6) == 0 {
			keeps := someKeeps(len(cmdTextOf(s.Cmd)) + 3)
			s.Keep = keeps[draw.Intn(len(keeps))]
		}
	}
	return s
}

// drawnWorld plays up to so many drawn steps.
func drawnWorld(t *testing.T, draw *rand.Rand, topo impl.Topo, most int) impl.World {
	t.Helper()
	w := worldFrom(t, drawnFirst(draw, topo))
	for range draw.Intn(most + 1) {
		w = impl.Do(w, drawnStep(draw, w))
	}
	return w
}

func drawnWorlds(t *testing.T, seed int64, most int) []impl.World {
	t.Helper()
	var l []impl.World
	draw := rand.New(rand.NewSource(seed))
	for _, topo := range smallTopos() {
		for range 3 {
			l = append(l, drawnWorld(t, draw, topo, most))
		}
	}
	return l
}

func TestWholeLimits(t *testing.T) {
	got := []int{impl.MaxSteps, impl.MaxText, impl.StCmd, impl.StTorn, impl.StCrash, impl.StStart}
	if !slices.Equal(got, []int{300, 12000, 1, 2, 3, 4}) {
		t.Errorf("the limits and the kinds of steps are %v", got)
	}
}

func TestWorldNew(t *testing.T) {
	right := 0
	for name, s := range someFirsts() {
		want, ok := impl.World{}, firstRight(s)
		if ok {
			right++
			want.First = s
		}
		if got, is := impl.WorldNew(s); is != ok || !sameWorld(got, want) || impl.WorldOk(got) != ok {
			t.Errorf("%s: WorldNew is %s, %v", name, worldText(got), is)
		}
	}
	if right != 9 {
		t.Errorf("%d first states are right", right)
	}
	draw := rand.New(rand.NewSource(118))
	for _, topo := range smallTopos() {
		s := drawnFirst(draw, topo)
		if got, ok := impl.WorldNew(s); !ok || !sameWorld(got, impl.World{First: s}) || !impl.WorldOk(got) {
			t.Errorf("WorldNew(%+v) is %s, %v", s, worldText(got), ok)
		}
	}
}

// upWorld has the small controller; downWorld has its bytes.
func upWorld(t *testing.T) impl.World {
	t.Helper()
	c := smallCtl(t)
	return impl.World{Up: true, First: stateCopy(c.First), Ctl: c, Codes: []int{0, 2, 0}}
}

func downWorld(t *testing.T) impl.World {
	t.Helper()
	c := smallCtl(t)
	return impl.World{First: c.First, Bytes: c.Journal.Bytes, Codes: []int{0, 2, 0}}
}

// wrongWorlds has worlds that aren't right, each for one cause.
func wrongWorlds(t *testing.T) map[string]impl.World {
	t.Helper()
	l := map[string]impl.World{"nothing": {}, "nothing, but up": {Up: true}, "nothing but codes": {Codes: []int{0}}}
	up := func(name string, change func(*impl.World)) {
		w := worldCopy(upWorld(t))
		change(&w)
		l["up, "+name] = w
	}
	down := func(name string, change func(*impl.World)) {
		w := worldCopy(downWorld(t))
		change(&w)
		l["down, "+name] = w
	}
	up("with a byte", func(w *impl.World) { w.Bytes = []byte{'0'} })
	up("with the journal's bytes", func(w *impl.World) { w.Bytes = w.Ctl.Journal.Bytes })
	up("with no First", func(w *impl.World) { w.First = impl.State{} })
	up("with no Ctl", func(w *impl.World) { w.Ctl = impl.Ctl{} })
	up("with other licences at first", func(w *impl.World) { w.First.Lic.A++ })
	up("with a later First", func(w *impl.World) { w.First.Now++ })
	up("with another Depth at first", func(w *impl.World) { w.First.Depth++ })
	up("with a node down at first", func(w *impl.World) { w.First.Up[2] = false })
	up("with another tree at first", func(w *impl.World) { w.First.Topo.Nodes[2].Cap.B-- })
	up("with the State as First", func(w *impl.World) { w.First = w.Ctl.State })
	up("with an end at first", func(w *impl.World) {
		w.First.Ends = []impl.End{{Id: 1, At: 0, Why: 1}}
		w.Ctl.First.Ends = w.First.Ends
	})
	up("with a First that isn't right", func(w *impl.World) { w.First.Depth, w.Ctl.First.Depth = 61, 61 })
	for name, c := range wrongCtls(t) {
		up("with a wrong Ctl: "+name, func(w *impl.World) { w.First, w.Ctl = c.First, c })
	}
	down("with a Ctl", func(w *impl.World) { w.Ctl = smallCtl(t) })
	down("with a new Ctl", func(w *impl.World) { w.Ctl, _ = impl.CtlNew(w.First) })
	down("with a Ctl's First", func(w *impl.World) { w.Ctl.First = w.First })
	down("with a Ctl's State", func(w *impl.World) { w.Ctl.State = w.First })
	down("with a Ctl's First that isn't right", func(w *impl.World) { w.Ctl.First.Depth = 1 })
	down("with a Ctl's time", func(w *impl.World) { w.Ctl.State.Now = 1 })
	down("with a Ctl's licences", func(w *impl.World) { w.Ctl.State.Lic.B = 1 })
	down("with a Ctl's Up", func(w *impl.World) { w.Ctl.State.Up = []bool{false} })
	down("with a Ctl's switch", func(w *impl.World) { w.Ctl.First.Topo.Parents = []int{0} })
	down("with a Ctl's node", func(w *impl.World) { w.Ctl.First.Topo.Nodes = make([]impl.Node, 1) })
	down("with a Ctl's queue", func(w *impl.World) { w.Ctl.State.Queue = make([]impl.Job, 1) })
	down("with a Ctl's run", func(w *impl.World) { w.Ctl.State.Runs = make([]impl.Run, 1) })
	down("with a Ctl's end", func(w *impl.World) { w.Ctl.State.Ends = make([]impl.End, 1) })
	down("with a Ctl's byte", func(w *impl.World) { w.Ctl.Journal.Bytes = []byte{'0'} })
	down("with a Ctl's Synced", func(w *impl.World) { w.Ctl.Journal.Synced = 1 })
	down("with a Ctl's Count", func(w *impl.World) { w.Ctl.Journal.Count = 1 })
	down("with no First", func(w *impl.World) { w.First = impl.State{} })
	down("with no First and no bytes", func(w *impl.World) { w.First, w.Bytes = impl.State{}, nil })
	down("with a First that has something to do", func(w *impl.World) { w.First, w.Bytes = busy(), nil })
	down("with a First that isn't right", func(w *impl.World) { w.First.Depth, w.Bytes = 61, nil })
	down("with a First that can't take the commands", func(w *impl.World) { w.First.Topo.Nodes = nil })
	down("with a record that is no command", func(w *impl.World) { w.Bytes = rows(0, "go 5", "stop") })
	down("with a record that is refused", func(w *impl.World) { w.Bytes = rows(0, "go 5", "go 4") })
	down("with too many bytes", func(w *impl.World) { w.Bytes = bytes.Repeat([]byte("x"), 40001) })
	return l
}

// otherRightWorlds has worlds that are right, some at the edge.
func otherRightWorlds(t *testing.T) map[string]impl.World {
	t.Helper()
	l := map[string]impl.World{"up": upWorld(t), "down": downWorld(t)}
	up := func(name string, change func(*impl.World)) {
		w := worldCopy(upWorld(t))
		change(&w)
		l["up, "+name] = w
	}
	down := func(name string, change func(*impl.World)) {
		w := worldCopy(downWorld(t))
		change(&w)
		l["down, "+name] = w
	}
	up("with no codes", func(w *impl.World) { w.Codes = nil })
	up("with codes that no call has", func(w *impl.World) { w.Codes = []int{math.MinInt, -1, 99, math.MaxInt} })
	up("with an empty list of bytes", func(w *impl.World) { w.Bytes = []byte{} })
	up("with empty lists at first", func(w *impl.World) {
		w.First.Queue, w.First.Runs, w.First.Ends = []impl.Job{}, []impl.Run{}, []impl.End{}
	})
	up("with a journal that isn't synced", func(w *impl.World) { w.Ctl.Journal.Synced = 0 })
	up("with a journal that is synced in part", func(w *impl.World) { w.Ctl.Journal.Synced = 33 })
	up("with a new Ctl", func(w *impl.World) { w.Ctl, _ = impl.CtlNew(w.First) })
	down("with no codes", func(w *impl.World) { w.Codes = nil })
	down("with no bytes", func(w *impl.World) { w.Bytes = nil })
	down("with an empty list of bytes", func(w *impl.World) { w.Bytes = []byte{} })
	down("with a Ctl of empty lists", func(w *impl.World) {
		w.Ctl.First = impl.State{Topo: impl.Topo{Parents: []int{}, Nodes: []impl.Node{}}, Up: []bool{}, Queue: []impl.Job{}, Runs: []impl.Run{}, Ends: []impl.End{}}
		w.Ctl.State, w.Ctl.Journal.Bytes = stateCopy(w.Ctl.First), []byte{}
	})
	down("with a torn record", func(w *impl.World) { w.Bytes = append(w.Bytes, "2 go"...) })
	down("with a record that isn't ended", func(w *impl.World) { w.Bytes = append(w.Bytes, "2 stop"...) })
	down("with the first record torn", func(w *impl.World) { w.Bytes = w.Bytes[:5] })
	down("with no record at all", func(w *impl.World) { w.Bytes = []byte("no record\n0 go 5\n") })
	down("with just not too many bytes", func(w *impl.World) { w.Bytes = bytes.Repeat([]byte("x"), 40000) })
	return l
}

func TestWorldOk(t *testing.T) {
	for name, w := range wrongWorlds(t) {
		if worldRight(w) || impl.WorldOk(w) {
			t.Errorf("%s: WorldOk is true", name)
		}
	}
	for name, w := range otherRightWorlds(t) {
		if !worldRight(w) || !impl.WorldOk(w) {
			t.Errorf("%s: WorldOk is false", name)
		}
	}
}

// changedWorld has one thing changed, and may be right or not.
func changedWorld(t *testing.T, draw *rand.Rand, w impl.World) impl.World {
	t.Helper()
	q := worldCopy(w)
	switch draw.Intn(6) {
	case 0:
		q.First = changedState(draw, w.First)
	case 1:
		q.Ctl = changedCtl(t, draw, w.Ctl)
	case 2:
		q.Bytes = changedBytes(draw, w.Bytes)
	case 3:
		q.Up = !q.Up
	case 4:
		q.Codes = append(q.Codes, draw.Intn(30))
	case 5:
		// First is changed in both places alike.
		q.First.Depth, q.Ctl.First.Depth = q.First.Depth+draw.Intn(2), q.Ctl.First.Depth+draw.Intn(2)
	}
	return q
}

func TestWorldOkOfChangedWorlds(t *testing.T) {
	draw := rand.New(rand.NewSource(119))
	is := map[string]int{}
	for _, w := range drawnWorlds(t, 120, 14) {
		for range 15 {
			q := changedWorld(t, draw, w)
			right := worldRight(q)
			if impl.WorldOk(q) != right {
				t.Errorf("WorldOk is %v: %s", !right, worldText(q))
			}
			is[fmt.Sprint("up ", q.Up, " right ", right)]++
		}
	}
	for _, kind := range []string{"up true right true", "up true right false", "up false right true", "up false right false"} {
		if is[kind] < 100 {
			t.Errorf("%s: %d, too few to tell", kind, is[kind])
		}
	}
}

// fitsIsThere asks of a world that is up that all that runs fits what is there, as promised.
func fitsIsThere(t *testing.T, w impl.World) int {
	t.Helper()
	s := w.Ctl.State
	for n, node := range s.Topo.Nodes {
		if u := impl.Use(s, n); u != useOf(s, n) || !vecRight(u) || u.A > node.Cap.A || u.B > node.Cap.B || u.C > node.Cap.C {
			t.Errorf("the use of the node %d is %v, its Cap %v, in %s", n, u, node.Cap, worldText(w))
		}
	}
	var lics impl.Vec
	for _, r := range s.Runs {
		lics = vec(lics.A+r.Job.Lic.A, lics.B+r.Job.Lic.B, lics.C+r.Job.Lic.C)
		if top := lowestOf(s.Topo, r.Nodes); len(r.Nodes) != r.Job.Nodes || depths(s.Topo.Parents, top)[0] > r.Job.Level {
			t.Errorf("%d runs on the nodes %v, in %s", r.Job.Id, r.Nodes, worldText(w))
		}
	}
	if lics.A > s.Lic.A || lics.B > s.Lic.B || lics.C > s.Lic.C {
		t.Errorf("the runs have the licences %v of %v, in %s", lics, s.Lic, worldText(w))
	}
	return len(s.Runs)
}

// leavesAlone asks that a step which can't be done, or is refused, leaves all but Codes.
func leavesAlone(t *testing.T, w, behind impl.World, s impl.Step) string {
	t.Helper()
	if takesUp := w.Up && (s.Kind == 1 || s.Kind == 2); !takesUp {
		if len(behind.Codes) != len(w.Codes) {
			t.Errorf("the codes are %v behind %+v in %s", behind.Codes, s, worldText(w))
		}
		if w.Up && s.Kind == 3 || !w.Up && s.Kind == 4 {
			return fmt.Sprint("done ", s.Kind)
		}
		if !sameWorld(behind, w) {
			t.Errorf("%+v can't be done in %s, but makes %s", s, worldText(w), worldText(behind))
		}
		return "not done"
	}
	if len(behind.Codes) != len(w.Codes)+1 || !slices.Equal(behind.Codes[:len(w.Codes)], w.Codes) {
		t.Errorf("the codes are %v behind %+v in %s", behind.Codes, s, worldText(w))
		return "no code"
	}
	code := behind.Codes[len(w.Codes)]
	if code == 0 {
		return fmt.Sprint("done ", s.Kind)
	}
	behind.Codes = w.Codes
	if !sameWorld(behind, w) {
		t.Errorf("%+v has the code %d in %s, but makes %s", s, code, worldText(w), worldText(behind))
	}
	return fmt.Sprint("refused ", s.Kind)
}

func TestPlaysOfDrawnSteps(t *testing.T) {
	draw := rand.New(rand.NewSource(121))
	was, runs, codes := map[string]int{}, 0, map[int]int{}
	for _, topo := range smallTopos() {
		for range 5 {
			w := worldFrom(t, drawnFirst(draw, topo))
			for range 25 {
				s := drawnStep(draw, w)
				got, want := impl.Do(w, s), stepOf(w, s)
				if !sameWorld(got, want) {
					t.Errorf("Do of %+v in %s is %s, not %s", s, worldText(w), worldText(got), worldText(want))
				}
				if !impl.WorldOk(got) || !worldRight(got) {
					t.Errorf("behind %+v in %s the world isn't right: %s", s, worldText(w), worldText(got))
				}
				was[leavesAlone(t, w, got, s)]++
				if got.Up {
					runs += fitsIsThere(t, got)
				}
				if n := len(got.Codes); n > len(w.Codes) {
					codes[got.Codes[n-1]]++
				}
				w = want
			}
		}
	}
	for _, kind := range []string{"done 1", "done 2", "done 3", "done 4", "not done", "refused 1", "refused 2"} {
		if was[kind] < 150 {
			t.Errorf("%s: %d, too few to tell", kind, was[kind])
		}
	}
	for _, code := range []int{0, 1, 2, 4, 5, 7, 8, 10} {
		if codes[code] < 8 {
			t.Errorf("the code %d comes %d times: too few to tell", code, codes[code])
		}
	}
	if runs < 1000 {
		t.Errorf("%d runs: too few to tell", runs)
	}
}

// A play in parts is the play: in one, in two at every place, and step by step.
func TestAPlayInPartsIsThePlay(t *testing.T) {
	draw := rand.New(rand.NewSource(122))
	parts := 0
	for i, w := range drawnWorlds(t, 123, 8) {
		if i%2 == 0 {
			continue
		}
		// The steps are drawn on the way, so that most of them can be done.
		var l []impl.Step
		behind := []impl.World{w}
		for range 12 {
			last := behind[len(behind)-1]
			s := drawnStep(draw, last)
			l, behind = append(l, s), append(behind, impl.Do(last, s))
		}
		whole := impl.Play(w, l)
		if !sameWorld(whole, behind[len(l)]) {
			t.Errorf("Play of %+v in %s is %s, but step by step %s", l, worldText(w), worldText(whole), worldText(behind[len(l)]))
		}
		for k := range len(l) + 1 {
			first := impl.Play(w, l[:k])
			if got := impl.Play(first, l[k:]); !sameWorld(first, behind[k]) || !sameWorld(got, whole) {
				t.Errorf("Play of %+v in two parts of %d and the others is %s, then %s", l, k, worldText(first), worldText(got))
			}
			parts++
		}
	}
	if parts < 500 {
		t.Errorf("%d parts: too few to tell", parts)
	}
}

// Every order of some steps is played, from a world that is down and from one that is up.
func TestEveryShortPlay(t *testing.T) {
	job := planJob(1, 0, 2, 4, 0)
	steps := []impl.Step{do(submit(job)), do(goTo(2)), torn(submit(job), 100), torn(goTo(3), 4), crash, start, {}}
	plays := 0
	var grow func(w, want impl.World, l []impl.Step)
	grow = func(w, want impl.World, l []impl.Step) {
		if len(l) == 4 {
			return
		}
		for _, s := range steps {
			more := append(slices.Clone(l), s)
			behind := stepOf(want, s)
			if got := impl.Play(w, more); !sameWorld(got, behind) {
				t.Errorf("Play of %+v is %s, not %s", more, worldText(got), worldText(behind))
			}
			plays++
			grow(w, behind, more)
		}
	}
	for _, w := range []impl.World{worldFrom(t, stateAt(0)), worldFrom(t, stateAt(0), start)} {
		grow(w, w, nil)
	}
	if plays != 2*(7+7*7+7*7*7+7*7*7*7) {
		t.Errorf("%d plays", plays)
	}
}

func TestDoByHand(t *testing.T) {
	one, two := planJob(1, 2, 2, 10, 0), planJob(2, 0, 2, 10, 0)
	w := worldFrom(t, stateAt(0))
	for i, c := range []struct {
		s      impl.Step
		report string
		codes  []int
	}{
		{do(submit(one)), "down 0\n", nil},
		{crash, "down 0\n", nil},
		{torn(submit(one), 3), "down 0\n", nil},
		{impl.Step{}, "down 0\n", nil},
		{start, "now 0\n", nil},
		{start, "now 0\n", nil},
		{impl.Step{Kind: 5}, "now 0\n", nil},
		{do(submit(one)), "now 0\nrun 1 0 0 1\n", []int{0}},
		{do(submit(one)), "now 0\nrun 1 0 0 1\n", []int{0, 2}},
		{do(submit(two)), "now 0\nwait 2\nrun 1 0 0 1\nlater 2 10 0 1\n", []int{0, 2, 0}},
		{do(impl.Cmd{}), "now 0\nwait 2\nrun 1 0 0 1\nlater 2 10 0 1\n", []int{0, 2, 0, 1}},
		{torn(goTo(4), 6), "down 70\n", []int{0, 2, 0, 1, 0}},
		{do(goTo(4)), "down 70\n", []int{0, 2, 0, 1, 0}},
		{start, "now 0\nwait 2\nrun 1 0 0 1\nlater 2 10 0 1\n", []int{0, 2, 0, 1, 0}},
		{torn(goTo(4), 7), "down 71\n", []int{0, 2, 0, 1, 0, 0}},
		{start, "now 4\nwait 2\nrun 1 0 0 1\nlater 2 10 0 1\n", []int{0, 2, 0, 1, 0, 0}},
		{torn(goTo(3), 7), "now 4\nwait 2\nrun 1 0 0 1\nlater 2 10 0 1\n", []int{0, 2, 0, 1, 0, 0, 10}},
		{crash, "down 71\n", []int{0, 2, 0, 1, 0, 0, 10}},
		{crash, "down 71\n", []int{0, 2, 0, 1, 0, 0, 10}},
		{start, "now 4\nwait 2\nrun 1 0 0 1\nlater 2 10 0 1\n", []int{0, 2, 0, 1, 0, 0, 10}},
		{do(goTo(12)), "now 12\nrun 2 10 0 1\nend 1 10 1\n", []int{0, 2, 0, 1, 0, 0, 10, 0}},
		{torn(impl.Cmd{Kind: 2, N: 2}, -5), "down 79\n", []int{0, 2, 0, 1, 0, 0, 10, 0, 0}},
		{start, "now 12\nrun 2 10 0 1\nend 1 10 1\n", []int{0, 2, 0, 1, 0, 0, 10, 0, 0}},
		{torn(impl.Cmd{Kind: 2, N: 2}, math.MaxInt), "down 90\n", []int{0, 2, 0, 1, 0, 0, 10, 0, 0, 0}},
		{start, "now 12\nend 1 10 1\nend 2 12 3\n", []int{0, 2, 0, 1, 0, 0, 10, 0, 0, 0}},
	} {
		w = impl.Do(w, c.s)
		if got := impl.Report(w); got != c.report || !slices.Equal(w.Codes, c.codes) || !impl.WorldOk(w) {
			t.Fatalf("behind the step %d, %+v: %q, codes %v", i, c.s, got, w.Codes)
		}
	}
}

// The fields that a kind of step has no use for are not asked.
func TestDoOfStepsWithMore(t *testing.T) {
	one := submit(planJob(1, 2, 2, 10, 0))
	up, down := worldFrom(t, stateAt(0), start), worldFrom(t, stateAt(0))
	for name, c := range map[string]struct {
		w       impl.World
		with, s impl.Step
	}{
		"a command with Keep":                  {up, impl.Step{Kind: 1, Cmd: one, Keep: 7}, do(one)},
		"a command with Keep below 0":          {up, impl.Step{Kind: 1, Cmd: one, Keep: -7}, do(one)},
		"a crash with a command":               {up, impl.Step{Kind: 3, Cmd: one, Keep: 7}, crash},
		"a start with a command":               {down, impl.Step{Kind: 4, Cmd: one, Keep: -1}, start},
		"a torn command with the greatest":     {up, torn(one, math.MaxInt), torn(one, 1000)},
		"a torn command with the least":        {up, torn(one, math.MinInt), torn(one, 0)},
		"a torn command that keeps one more":   {up, torn(one, 33), torn(one, 32)},
		"a torn command that is no command":    {up, torn(impl.Cmd{}, 0), do(impl.Cmd{})},
		"a torn command that is refused":       {up, torn(impl.Cmd{Kind: 5}, 9), do(impl.Cmd{Kind: 5})},
		"a step without a kind and a command":  {up, impl.Step{Cmd: one}, impl.Step{}},
		"a step of the kind -1 with a command": {up, impl.Step{Kind: -1, Cmd: one, Keep: 1}, impl.Step{}},
	} {
		got, want := impl.Do(c.w, c.with), impl.Do(c.w, c.s)
		if !sameWorld(got, want) || !sameWorld(got, stepOf(c.w, c.with)) {
			t.Errorf("%s: Do is %s, not %s", name, worldText(got), worldText(want))
		}
	}
}

func TestDoAtTheKeeps(t *testing.T) {
	w := worldFrom(t, stateAt(0), start, do(goTo(3)))
	x := submit(planJob(1, 2, 2, 10, 0))
	record := "1 submit 1 2 2 3/0/0 0/0/0 10 0\n"
	for _, keep := range slices.Concat(someKeeps(len(record)), upTo(len(record)+3)) {
		kept := min(max(keep, 0), len(record))
		down := impl.Do(w, torn(x, keep))
		want := impl.World{First: w.First, Bytes: []byte("0 go 3\n" + record[:kept]), Codes: []int{0, 0}}
		if !sameWorld(down, want) || !impl.WorldOk(down) {
			t.Errorf("behind a torn command that keeps %d the world is %s", keep, worldText(down))
		}
		again := impl.Do(down, start)
		found := impl.Play(w, []impl.Step{crash, start})
		if kept == len(record) {
			found = impl.Do(w, do(x))
		}
		found.Codes = down.Codes
		if !sameWorld(again, found) {
			t.Errorf("behind a torn command that keeps %d is found %s, not %s", keep, worldText(again), worldText(found))
		}
	}
}

// A crash tears nothing: all of the journal's bytes are there, whether they were synced or not.
func TestACrashKeepsTheJournalsBytes(t *testing.T) {
	w := upWorld(t)
	all := w.Ctl.Journal.Bytes
	for synced := range len(all) + 1 {
		w.Ctl.Journal.Synced = synced
		want := impl.World{First: w.First, Bytes: all, Codes: w.Codes}
		if got := impl.Do(w, crash); !sameWorld(got, want) {
			t.Errorf("with %d bytes synced a crash makes %s", synced, worldText(got))
		}
		record := "2 go 3\n"
		// A torn command keeps of what wasn't synced a part only.
		want.Bytes, want.Codes = []byte((string(all) + record)[:min(synced+9, len(all)+len(record))]), append(slices.Clone(w.Codes), 0)
		if got := impl.Do(w, torn(goTo(3), 9)); !sameWorld(got, want) || !impl.WorldOk(got) {
			t.Errorf("with %d bytes synced a torn command makes %s", synced, worldText(got))
		}
		if got := impl.Do(w, do(goTo(3))); got.Ctl.Journal.Synced != len(all)+len(record) || !impl.WorldOk(got) {
			t.Errorf("with %d bytes synced a command makes %s", synced, worldText(got))
		}
	}
}

// What is found behind a crash is what was there, as a start opens the journal anew.
func TestAWorldIsFoundAgain(t *testing.T) {
	ups := 0
	for _, w := range drawnWorlds(t, 124, 18) {
		if !w.Up {
			continue
		}
		ups++
		if got := impl.Play(w, []impl.Step{crash, start}); !sameWorld(got, w) {
			t.Errorf("behind a crash %s is %s", worldText(w), worldText(got))
		}
	}
	if ups < 30 {
		t.Errorf("%d are up: too few to tell", ups)
	}
}

func TestTheCodesOfSteps(t *testing.T) {
	put := func(name string, c impl.Ctl, x impl.Cmd, want int) {
		w := impl.World{Up: true, First: c.First, Ctl: c, Codes: []int{7}}
		for _, s := range []impl.Step{do(x), torn(x, 0)} {
			got := impl.Do(w, s)
			kept := got
			kept.Codes = w.Codes
			if !slices.Equal(got.Codes, []int{7, want}) || want != 0 && !sameWorld(kept, w) {
				t.Errorf("%s: behind %+v is %.300s", name, s, worldText(got))
			}
		}
	}
	small := smallCtl(t)
	down := ctlFrom(t, stateAt(0), impl.Cmd{Kind: 4, N: 2})
	put("taken", small, goTo(5), 0)
	put("no command", small, impl.Cmd{}, 1)
	put("there already", small, submit(planJob(1, 0, 1, 5, 0)), 2)
	put("too many jobs", fullCtl(t, 60), submit(planJob(99, 0, 1, 5, 0)), 3)
	put("never", small, submit(planJob(9, 0, 4, 5, 1)), 4)
	put("no job", small, impl.Cmd{Kind: 3, N: 2}, 5)
	put("too many ends", endedCtl(t, 300, "submit 9 0 1 0/0/0 0/0/0 9 0"), impl.Cmd{Kind: 3, N: 9}, 6)
	put("not up", down, impl.Cmd{Kind: 4, N: 2}, 7)
	put("is up", small, impl.Cmd{Kind: 5, N: 2}, 8)
	put("too few licences", ctlFrom(t, stateAt(0), submit(withLic(planJob(1, 0, 1, 5, 0), vec(3, 0, 0)))), impl.Cmd{Kind: 6, Lic: vec(2, 4, 4)}, 9)
	put("gone by", ctlFrom(t, stateAt(5)), goTo(4), 10)
	put("too many bytes", padded(t, 40000), impl.Cmd{Kind: 6, Lic: vec(9, 9, 9)}, 21)
	put("just not too many bytes", padded(t, 40000-len("1334 lic 9/9/9\n")), impl.Cmd{Kind: 6, Lic: vec(9, 9, 9)}, 0)
}

func TestDoOfWrongWorlds(t *testing.T) {
	for name, w := range wrongWorlds(t) {
		for _, s := range []impl.Step{do(goTo(9)), torn(goTo(9), 3), crash, start, {}, {Kind: 5}, {Kind: math.MinInt}} {
			if got := impl.Do(w, s); !noWorld(got) {
				t.Errorf("%s: Do of %+v is %s", name, s, worldText(got))
			}
			if got := impl.Play(w, []impl.Step{s}); !noWorld(got) {
				t.Errorf("%s: Play of %+v is %s", name, s, worldText(got))
			}
			if got := impl.Play(w, []impl.Step{s, start, do(goTo(9))}); !noWorld(got) {
				t.Errorf("%s: Play of %+v and more is %s", name, s, worldText(got))
			}
		}
	}
}

// Without a step nothing is done: the world is as it was, whatever it was.
func TestPlayOfNothing(t *testing.T) {
	for name, w := range wrongWorlds(t) {
		if got := impl.Play(w, nil); !sameWorld(got, w) {
			t.Errorf("%s: Play of nothing is %s", name, worldText(got))
		}
	}
	for name, w := range otherRightWorlds(t) {
		if got := impl.Play(w, []impl.Step{}); !sameWorld(got, w) {
			t.Errorf("%s: Play of nothing is %s", name, worldText(got))
		}
	}
}

func TestStepTextByHand(t *testing.T) {
	job := submit(impl.Job{Id: 7, Prio: 6, Nodes: 5, Need: vec(4, 3, 2), Lic: vec(9, 8, 7), Wall: 11, Level: 12})
	for _, c := range []struct {
		s    impl.Step
		want string
	}{
		{do(job), "do submit 7 6 5 4/3/2 9/8/7 11 12"}, {torn(job, 20), "torn 20 submit 7 6 5 4/3/2 9/8/7 11 12"},
		{do(impl.Cmd{Kind: 2, N: 5}), "do cancel 5"}, {torn(impl.Cmd{Kind: 2, N: 5}, 0), "torn 0 cancel 5"},
		{do(impl.Cmd{Kind: 3, N: 5}), "do done 5"}, {torn(impl.Cmd{Kind: 3, N: 5}, 1), "torn 1 done 5"},
		{do(impl.Cmd{Kind: 4}), "do fail 0"}, {torn(impl.Cmd{Kind: 4}, 10), "torn 10 fail 0"},
		{do(impl.Cmd{Kind: 5, N: 23}), "do resume 23"}, {torn(impl.Cmd{Kind: 5, N: 23}, 999999999), "torn 999999999 resume 23"},
		{do(impl.Cmd{Kind: 6, Lic: vec(1, 0, 3)}), "do lic 1/0/3"}, {torn(impl.Cmd{Kind: 6}, 1000000000), "torn 1000000000 lic 0/0/0"},
		{do(goTo(0)), "do go 0"}, {torn(goTo(1000000000), 3), "torn 3 go 1000000000"},
		{crash, "crash"}, {start, "start"},
		// No such kind.
		{impl.Step{}, ""}, {impl.Step{Kind: 5}, ""}, {impl.Step{Kind: -1, Cmd: goTo(5)}, ""}, {impl.Step{Cmd: goTo(5)}, ""}, {impl.Step{Kind: math.MaxInt, Cmd: job, Keep: 3}, ""},
		// No such command.
		{impl.Step{Kind: 1}, ""}, {impl.Step{Kind: 2, Keep: 3}, ""}, {do(goTo(-1)), ""}, {torn(goTo(1000000001), 3), ""}, {do(impl.Cmd{Kind: 2, N: 5, Lic: vec(1, 0, 0)}), ""},
		// Keep is no time.
		{torn(goTo(5), -1), ""}, {torn(goTo(5), 1000000001), ""}, {torn(goTo(5), math.MinInt), ""}, {torn(goTo(5), math.MaxInt), ""},
		// A field that isn't written isn't zero.
		{impl.Step{Kind: 1, Cmd: goTo(5), Keep: 1}, ""}, {impl.Step{Kind: 1, Cmd: goTo(5), Keep: -1}, ""},
		{impl.Step{Kind: 3, Keep: 1}, ""}, {impl.Step{Kind: 3, Cmd: goTo(0)}, ""}, {impl.Step{Kind: 3, Cmd: impl.Cmd{N: 1}}, ""},
		{impl.Step{Kind: 4, Keep: -1}, ""}, {impl.Step{Kind: 4, Cmd: impl.Cmd{Lic: vec(0, 0, 1)}}, ""}, {impl.Step{Kind: 4, Cmd: impl.Cmd{Job: impl.Job{Level: 1}}}, ""},
	} {
		if got := impl.StepText(c.s); got != c.want || stepTextOf(c.s) != c.want {
			t.Errorf("StepText(%+v) is %q, not %q", c.s, got, c.want)
		}
		s, ok := impl.TextStep(c.want)
		if c.want == "" {
			if ok || s != (impl.Step{}) {
				t.Errorf("the empty text is read as %+v, %v", s, ok)
			}
			continue
		}
		if !ok || s != c.s {
			t.Errorf("TextStep(%q) is %+v, %v", c.want, s, ok)
		}
	}
}

// stepIsReadAsWritten holds the text of any step against the document's words, and reads it again.
func stepIsReadAsWritten(t *testing.T, s impl.Step) bool {
	t.Helper()
	text := impl.StepText(s)
	if text != stepTextOf(s) {
		t.Errorf("StepText(%+v) is %q", s, text)
	}
	if text == "" {
		return false
	}
	if got, ok := impl.TextStep(text); !ok || got != s {
		t.Errorf("%+v is written %q and read %+v, %v", s, text, got, ok)
	}
	return true
}

func TestStepIsReadAsWritten(t *testing.T) {
	draw := rand.New(rand.NewSource(125))
	for kind := impl.CmdSubmit; kind <= impl.CmdGo; kind++ {
		for range 200 {
			c := drawnRightCmd(draw, kind)
			for _, s := range []impl.Step{do(c), torn(c, draw.Intn(50)), torn(c, draw.Intn(1000000001)), torn(c, 0), torn(c, 1000000000)} {
				if !stepIsReadAsWritten(t, s) {
					t.Errorf("StepText(%+v) is empty", s)
				}
			}
		}
	}
	if !stepIsReadAsWritten(t, crash) || !stepIsReadAsWritten(t, start) {
		t.Error("StepText of a crash or a start is empty")
	}
}

// Each field of each kind of step with each kind of command is set to every edge.
func TestStepTextOfEachField(t *testing.T) {
	right, wrong := 0, 0
	for kind := -1; kind <= 6; kind++ {
		for _, c := range append(rightCmds(), impl.Cmd{}, impl.Cmd{Kind: 8}) {
			for field := range cmdFields(&c) {
				for _, n := range placeEdges {
					s := impl.Step{Kind: kind, Cmd: c}
					*cmdFields(&s.Cmd)[field] = n
					for _, keep := range []int{0, 7, -1} {
						s.Keep = keep
						if stepIsReadAsWritten(t, s) {
							right++
						} else {
							wrong++
						}
					}
				}
			}
			for _, keep := range placeEdges {
				stepIsReadAsWritten(t, impl.Step{Kind: kind, Cmd: c, Keep: keep})
			}
		}
	}
	if right < 500 || wrong < 5000 {
		t.Errorf("%d are right, %d wrong: too few to tell", right, wrong)
	}
}

func stepIsReadByForm(t *testing.T, s string) bool {
	t.Helper()
	want, right := formStep(s)
	if got, ok := impl.TextStep(s); ok != right || got != want {
		t.Errorf("TextStep(%.200q) is %+v, %v", s, got, ok)
	}
	return right
}

func TestEveryShortStepTextIsReadByItsForm(t *testing.T) {
	right := 0
	put := func(s string) {
		if stepIsReadByForm(t, s) {
			right++
		}
	}
	everyRow([]string{"do", "torn", "crash", "start", "go", "fail 3", "lic 1/0/2", " ", "0", "5", "\n"}, 5, put)
	everyRow([]string{"go 5", "5 ", "5", "05 ", " ", "1000000000 ", "1000000001 ", "-1 ", "cancel 0", "cancel 1", "submit 1 2 2 3/0/0 0/0/0 10 0", "crash"}, 3, func(s string) {
		put("do " + s)
		put("torn " + s)
		put("torn 5 " + s)
		put(s)
	})
	everyText("do g5", 8, put)
	if right < 40 {
		t.Errorf("%d are right: too few to tell", right)
	}
}

func TestChangedStepTextIsReadByItsForm(t *testing.T) {
	draw := rand.New(rand.NewSource(126))
	right := 0
	texts := []string{"crash", "start"}
	for kind := impl.CmdSubmit; kind <= impl.CmdGo; kind++ {
		for range 4 {
			texts = append(texts, stepTextOf(do(drawnRightCmd(draw, kind))), stepTextOf(torn(drawnRightCmd(draw, kind), draw.Intn(300))))
		}
	}
	for _, s := range texts {
		for i := range len(s) + 1 {
			for _, b := range []string{" ", "\n", "\r", "\t", "\x00", "0", "1", "9", "00", "-", "+", "/", "d", "D", "\xff", " 0", " 1/1/1", "do ", "torn ", "torn 3 ", "crash", "000000000"} {
				for _, near := range []string{s[:i] + b + s[i:], s[:i] + b + s[min(i+1, len(s)):]} {
					if stepIsReadByForm(t, near) {
						right++
					}
				}
			}
			stepIsReadByForm(t, s[:i])
			stepIsReadByForm(t, s[i:])
			stepIsReadByForm(t, s[:i]+s[min(i+1, len(s)):])
		}
	}
	if right < 700 {
		t.Errorf("%d are right: too few to tell", right)
	}
}

func TestTextOfNoStep(t *testing.T) {
	for name, s := range map[string]string{
		"the empty text": "", "a blank": " ", "a byte 10": "\n", "an unknown word": "stop", "an unknown word with a command": "stop go 5", "a command alone": "go 5", "a number": "5", "a begin": "begin 0/0/0 1", "a line of a tree": "switch 0",
		"do alone": "do", "do and a blank": "do ", "do of no command": "do stop", "do of a crash": "do crash", "do twice": "do do go 5", "do with a keep": "do 5 go 7", "do without a blank": "dogo 5",
		"do with two blanks": "do  go 5", "do with a blank in front": " do go 5", "do with a blank behind": "do go 5 ", "do with a byte 10 behind": "do go 5\n", "do with a tab": "do\tgo 5", "do in capitals": "DO go 5", "do of two commands": "do go 5 go 6",
		"do of a command with '0' in front": "do go 05", "do of a time that is too great": "do go 1000000001", "do with a word less": "do go", "do with a word more": "do go 5 5",
		"torn alone": "torn", "torn and a blank": "torn ", "torn without a keep": "torn go 7", "torn without a command": "torn 5", "torn without a command, and a blank": "torn 5 ", "torn of no command": "torn 5 stop", "torn of a crash": "torn 5 crash",
		"torn with two keeps": "torn 5 5 go 7", "torn with the keep behind": "torn go 7 5", "torn with a blank more": "torn  5 go 7", "torn with a blank more behind the keep": "torn 5  go 7", "torn with a blank behind": "torn 5 go 7 ", "torn with a byte 10 behind": "torn 5 go 7\n",
		"a keep with '0' in front": "torn 05 go 7", "a keep of two '0'": "torn 00 go 7", "a keep with a sign": "torn +5 go 7", "a keep below 0": "torn -1 go 7", "a keep that is too great": "torn 1000000001 go 7", "a keep that wraps round": "torn 18446744073709551621 go 7", "a far greater keep": "torn 99999999999999999999999 go 7", "a keep that is a word": "torn all go 7", "a keep that is a vector": "torn 1/0/0 go 7", "a keep that is empty": "torn  go 7",
		"crash with a blank behind": "crash ", "crash with a blank in front": " crash", "crash with a number": "crash 5", "crash with a command": "crash go 5", "crash twice": "crash crash", "crash with a byte 10 behind": "crash\n", "crash in capitals": "Crash", "crash cut short": "cras", "crash and more": "crashed",
		"start with a blank behind": "start ", "start with a blank in front": " start", "start with a number": "start 0", "start with a command": "start go 5", "start with a byte 0 behind": "start\x00", "start in capitals": "START", "start cut short": "star", "start and more": "starts",
		"a remark": "# crash", "a very long text": "do " + strings.Repeat("go 5 ", 100000), "very many blanks": strings.Repeat(" ", 100000), "a very long keep": "torn " + strings.Repeat("1", 100000) + " go 5", "very many '0'": "torn " + strings.Repeat("0", 100000) + " go 5",
	} {
		if got, ok := impl.TextStep(s); ok || got != (impl.Step{}) {
			t.Errorf("%s: TextStep is %+v, %v", name, got, ok)
		}
		if _, right := formStep(s); right {
			t.Errorf("%s: it is a step by its form", name)
		}
	}
}

// smallTree has two nodes below one leaf, and one below another.
const smallTree = "switch 0\nswitch 0\nnode 1 4/4/4\nnode 1 4/4/4\nnode 2 4/4/4\n"

func TestPerformByHand(t *testing.T) {
	steps := "start\ndo submit 1 2 2 3/0/0 0/0/0 10 0\ntorn 3 go 4\nstart\ndo submit 2 0 2 3/0/0 0/0/0 10 0\ndo stop\n"
	right := strings.TrimSuffix(steps, "do stop\n")
	report := "now 0\nwait 2\nrun 1 0 0 1\nlater 2 10 0 1\n"
	for name, c := range map[string]struct {
		text string
		line int
		want string
	}{
		"a tree, begin and steps":             {smallTree + "begin 4/4/4 1\n" + right, 0, report},
		"a last line that isn't ended":        {smallTree + "begin 4/4/4 1\n" + strings.TrimSuffix(right, "\n"), 0, report},
		"remarks and empty lines anywhere":    {"\n#\n" + strings.ReplaceAll(smallTree+"begin 4/4/4 1\n"+right, "\n", "\n# start\n\n##\n"), 0, report},
		"a remark at the end that isn't one":  {smallTree + "begin 4/4/4 1\nstart\n# no more", 0, "now 0\n"},
		"no steps":                            {smallTree + "begin 4/4/4 1\n", 0, "down 0\n"},
		"no steps, begin isn't ended":         {smallTree + "begin 4/4/4 1", 0, "down 0\n"},
		"no line of a tree":                   {"begin 0/0/0 1\nstart\n", 0, "now 0\n"},
		"no node":                             {"switch 0\nswitch 0\nbegin 0/0/0 0\nstart\n", 0, "now 0\n"},
		"the greatest licences and depth":     {"begin 1000000/1000000/1000000 60\nstart\n", 0, "now 0\n"},
		"steps that can't be done":            {"begin 0/0/0 1\ndo go 5\ncrash\ntorn 5 go 7\nstart\nstart\n", 0, "now 0\n"},
		"steps that are refused":              {"begin 0/0/0 1\nstart\ndo go 5\ndo go 4\ndo submit 1 0 1 0/0/0 0/0/0 5 0\n", 0, "now 5\n"},
		"the empty text":                      {"", 1, ""},
		"an empty line":                       {"\n", 2, ""},
		"remarks only":                        {"# x\n\n", 3, ""},
		"a remark that isn't ended":           {"#", 2, ""},
		"a tree only":                         {smallTree, 6, ""},
		"a tree only, not ended":              {strings.TrimSuffix(smallTree, "\n"), 6, ""},
		"a tree and remarks only":             {"#\n" + smallTree + "#\n\n", 9, ""},
		"a wrong tree only":                   {"switch 5\nnode x\n", 3, ""},
		"a step at first":                     {"start\nbegin 0/0/0 1\n", 1, ""},
		"a step behind the tree":              {"switch 0\n\nstart\nbegin 0/0/0 1\n", 3, ""},
		"a step only":                         {"#\ncrash", 2, ""},
		"an unknown line ahead of begin":      {"switch 0\nstop\nbegin 0/0/0 1\n", 2, ""},
		"begin ahead of the tree":             {"begin 0/0/0 1\nswitch 0\nnode 1 1/1/1\n", 2, ""},
		"begin ahead of all of the tree":      {"\nbegin 0/0/0 1\n\nnode 0 1/1/1\n", 4, ""},
		"begin within the tree":               {"switch 0\nbegin 0/0/0 1\nnode 1 1/1/1\nstart\n", 3, ""},
		"begin twice":                         {"begin 0/0/0 1\nbegin 0/0/0 1\nstart\n", 2, ""},
		"begin twice, later":                  {"begin 0/0/0 1\nstart\n#\nbegin 0/0/0 1\n", 4, ""},
		"a depth of 61":                       {"switch 0\nbegin 0/0/0 61\n", 2, ""},
		"a depth of 60":                       {"switch 0\nbegin 0/0/0 60\n", 0, "down 0\n"},
		"a depth below 0":                     {"begin 0/0/0 -1\n", 1, ""},
		"a depth with '0' in front":           {"begin 0/0/0 01\n", 1, ""},
		"a depth that is a word":              {"begin 0/0/0 one\n", 1, ""},
		"a depth that is empty":               {"begin 0/0/0 \n", 1, ""},
		"a depth that is no time":             {"begin 0/0/0 1000000001\n", 1, ""},
		"no depth":                            {"begin 0/0/0\n", 1, ""},
		"no licences":                         {"#\nbegin 1\n", 2, ""},
		"licences that are too great":         {"begin 0/1000001/0 1\n", 1, ""},
		"licences of two":                     {"begin 0/0 1\n", 1, ""},
		"licences with '0' in front":          {"begin 0/00/0 1\n", 1, ""},
		"licences and depth the other way":    {"begin 1 0/0/0\n", 1, ""},
		"a begin with a word more":            {"begin 0/0/0 1 1\n", 1, ""},
		"a begin with a blank behind":         {"begin 0/0/0 1 \n", 1, ""},
		"a begin with two blanks":             {"begin  0/0/0 1\n", 1, ""},
		"a begin with a blank in front":       {" begin 0/0/0 1\n", 1, ""},
		"a begin alone":                       {"begin\n", 1, ""},
		"a begin in capitals":                 {"BEGIN 0/0/0 1\n", 1, ""},
		"a begin with a byte 13":              {"begin 0/0/0 1\r\n", 1, ""},
		"an end for a begin":                  {"end 0/0/0 1\n", 1, ""},
		"a parent that isn't there":           {"switch 5\nbegin 0/0/0 1\n", 2, ""},
		"a leaf that isn't there":             {"switch 0\n\nnode 2 1/1/1\n#\nbegin 0/0/0 1\nstart\n", 5, ""},
		"leaves of two depths":                {"switch 0\nswitch 1\nswitch 0\nbegin 0/0/0 1\n", 4, ""},
		"a node with too much":                {"node 0 1000001/0/0\nbegin 0/0/0 1\n", 2, ""},
		"a switch behind a node":              {"switch 0\nnode 1 1/1/1\nswitch 0\nbegin 0/0/0 1\n", 4, ""},
		"a switch without a number":           {"switch \nbegin 0/0/0 1\n", 2, ""},
		"a switch with a word more":           {"switch 0 0\nbegin 0/0/0 1\n", 2, ""},
		"a switch with two blanks":            {"switch  0\nbegin 0/0/0 1\n", 2, ""},
		"a switch with a blank behind":        {"switch 0 \nbegin 0/0/0 1\n", 2, ""},
		"a switch without a blank":            {"switch\nbegin 0/0/0 1\n", 1, ""},
		"switches":                            {"switches 0\nbegin 0/0/0 1\n", 1, ""},
		"a node without a blank":              {"switch 0\nnode\nbegin 0/0/0 1\n", 2, ""},
		"a blank ahead of a switch":           {"#\n switch 0\nbegin 0/0/0 1\n", 2, ""},
		"a wrong tree and a wrong begin":      {"switch 5\nbegin 0/0/0 61\nstop\n", 2, ""},
		"a step that is none":                 {smallTree + "begin 4/4/4 1\n" + steps, 12, ""},
		"a step that is none, among remarks":  {"#\n" + smallTree + "begin 4/4/4 1\n\n#\n" + steps, 15, ""},
		"a step that is none, not ended":      {"begin 0/0/0 1\nstart\nstop", 3, ""},
		"two steps that are none":             {"begin 0/0/0 1\nstop\nstart\nstop\n", 2, ""},
		"a blank":                             {"begin 0/0/0 1\n \n", 2, ""},
		"a byte 13":                           {"begin 0/0/0 1\n\r\n", 2, ""},
		"a remark behind a blank":             {"begin 0/0/0 1\n # start\n", 2, ""},
		"a remark behind a step":              {"begin 0/0/0 1\nstart # the machine\n", 2, ""},
		"a step with a blank behind":          {"begin 0/0/0 1\nstart \n", 2, ""},
		"a command that isn't a step":         {"begin 0/0/0 1\nstart\ngo 5\n", 3, ""},
		"a torn command without a keep":       {"begin 0/0/0 1\nstart\ntorn go 5\n", 3, ""},
		"a command that isn't right":          {"begin 0/0/0 1\nstart\ndo cancel 0\n", 3, ""},
		"steps behind one that is none":       {"begin 0/0/0 1\nstart\ndo\n" + strings.Repeat("start\n", 400), 3, ""},
		"a tree that is greater than allowed": {strings.Repeat("switch 0\n", 24) + "begin 0/0/0 1\n", 25, ""},
		"a tree that is as great as allowed":  {strings.Repeat("switch 0\n", 23) + "begin 0/0/0 1\n", 0, "down 0\n"},
		"more nodes than allowed":             {strings.Repeat("node 0 0/0/0\n", 25) + "begin 0/0/0 1\n", 26, ""},
		"as many nodes as allowed":            {strings.Repeat("node 0 0/0/0\n", 24) + "begin 0/0/0 1\n", 0, "down 0\n"},
	} {
		w, line := impl.Perform(c.text)
		if _, _, wrong := readOf(c.text); line != c.line || wrong != c.line {
			t.Errorf("%s: Perform answers the line %d, not %d", name, line, c.line)
		}
		if line != 0 && !noWorld(w) || line == 0 && (impl.Report(w) != c.want || !impl.WorldOk(w)) {
			t.Errorf("%s: Perform is %s", name, worldText(w))
		}
		if want, _ := performOf(c.text); !sameWorld(w, want) {
			t.Errorf("%s: Perform is %s, not %s", name, worldText(w), worldText(want))
		}
	}
}

// performIsRight holds Perform against the document's words, and tells the line.
func performIsRight(t *testing.T, name, text string) int {
	t.Helper()
	want, wanted := performOf(text)
	got, line := impl.Perform(text)
	if line != wanted || !sameWorld(got, want) {
		t.Errorf("%s: Perform is %.300s, %d, not %.300s, %d", name, worldText(got), line, worldText(want), wanted)
	}
	return line
}

func TestPerformUpToMaxSteps(t *testing.T) {
	head := smallTree + "begin 4/4/4 1\n\n"
	most := strings.Repeat("start\n", 299)
	for _, c := range []struct {
		name, text string
		line       int
	}{
		{"just so many", head + most + "do go 5\n", 0},
		{"just so many, not ended", head + most + "do go 5", 0},
		{"just so many and remarks", head + most + "do go 5\n# done\n\n#", 0},
		{"one more", head + most + "do go 5\nstart\n", 308},
		{"one more, not ended", head + most + "do go 5\nstart", 308},
		{"one more behind remarks", head + most + "do go 5\n#\n\nstart\nstart\n", 310},
		{"one more that is none", head + most + "do go 5\nstop\n", 308},
		{"many more", head + most + most, 308},
		{"one more behind one that is none", head + "stop\n" + most + "start\nstart\n", 8},
		{"one more behind a last one that is none", head + most + "stop\nstart\n", 307},
	} {
		if line := performIsRight(t, c.name, c.text); line != c.line {
			t.Errorf("%s: the line is %d, not %d", c.name, line, c.line)
		}
	}
	if w, _ := impl.Perform(head + most + "do go 5\n"); impl.Report(w) != "now 5\n" {
		t.Errorf("the last of the steps leaves %s", worldText(w))
	}
}

func TestPerformUpToMaxText(t *testing.T) {
	small := smallTree + "begin 4/4/4 1\nstart\ndo go 5\n"
	for _, c := range []struct {
		name, head, tail string
		line             int
	}{
		{"right", small, "", 0},
		{"right, a step at the end", small, "\ndo go 6", 0},
		{"no begin", smallTree, "", 7},
		{"a step that is none at the end", small, "\nstop\n", 10},
	} {
		pad := 12000 - len(c.head) - len(c.tail)
		for more, line := range map[int]int{-1: c.line, 0: c.line, 1: 1, 2: 1, 5000: 1} {
			text := c.head + strings.Repeat("#", pad+more) + c.tail
			if len(text) != 12000+more {
				t.Fatalf("%d bytes", len(text))
			}
			if got := performIsRight(t, c.name, text); got != line {
				t.Errorf("%s: the line is %d of a text of %d bytes, not %d", c.name, got, len(text), line)
			}
		}
	}
	for name, text := range map[string]string{"empty lines": strings.Repeat("\n", 12001), "wrong lines": strings.Repeat("stop\n", 2401), "very many bytes": strings.Repeat("start\n", 100000)} {
		if got := performIsRight(t, name, text); got != 1 {
			t.Errorf("%s: the line is %d", name, got)
		}
	}
	if got := performIsRight(t, "empty lines", strings.Repeat("\n", 12000)); got != 12001 {
		t.Errorf("of 12000 empty lines the line is %d", got)
	}
}

// drawnSteps has right steps that are drawn on the way from w.
func drawnSteps(draw *rand.Rand, w impl.World, most int) []impl.Step {
	var l []impl.Step
	for range draw.Intn(most + 1) {
		s := drawnStep(draw, w)
		if s.Kind != impl.StTorn {
			s.Keep = 0
		}
		if s.Kind >= impl.StCrash {
			s.Cmd = impl.Cmd{}
		}
		if stepTextOf(s) == "" {
			continue
		}
		l, w = append(l, s), impl.Do(w, s)
	}
	return l
}

// drawnScript is a first state and steps, and the lines that tell of them.
type drawnScript struct {
	first impl.State
	steps []impl.Step
	lines []string
}

func drawnScripts(t *testing.T, seed int64, most int) []drawnScript {
	t.Helper()
	var l []drawnScript
	draw := rand.New(rand.NewSource(seed))
	for _, topo := range smallTopos() {
		for range 3 {
			topo := withCaps(draw, topo)
			lic, depth := vec(draw.Intn(5), 1+draw.Intn(4), 1+draw.Intn(4)), []int{0, 1, 1, 2, 60}[draw.Intn(5)]
			first, ok := impl.StateNew(topo, lic, depth)
			if !ok {
				t.Fatalf("StateNew(%+v) is false", topo)
			}
			d := drawnScript{first: first, steps: drawnSteps(draw, worldFrom(t, first), most)}
			d.lines = strings.SplitAfter(impl.TopoText(topo), "\n")
			d.lines = append(d.lines[:len(d.lines)-1], fmt.Sprintf("begin %s %d\n", slashed(lic), depth))
			for _, s := range d.steps {
				d.lines = append(d.lines, stepTextOf(s)+"\n")
			}
			l = append(l, d)
		}
	}
	return l
}

// withRemarks has lines that say nothing anywhere between.
func withRemarks(draw *rand.Rand, lines []string) []string {
	l := slices.Clone(lines)
	remarks := []string{"\n", "#\n", "# crash\n", "#start\n", "#\x00\xff #\n", "#\r\n"}
	for range draw.Intn(2 * len(lines)) {
		l = slices.Insert(l, draw.Intn(len(l)+1), remarks[draw.Intn(len(remarks))])
	}
	return l
}

func TestATextIsPerformedAsItsStepsArePlayed(t *testing.T) {
	draw := rand.New(rand.NewSource(127))
	ups, downs, steps := 0, 0, 0
	for _, d := range drawnScripts(t, 128, 20) {
		w, ok := impl.WorldNew(d.first)
		want := impl.Play(w, d.steps)
		if !ok {
			t.Fatalf("WorldNew(%+v) is false", d.first)
		}
		for range 4 {
			text := strings.Join(withRemarks(draw, d.lines), "")
			if draw.Intn(2) == 0 {
				text = strings.TrimSuffix(text, "\n")
			}
			if got, line := impl.Perform(text); line != 0 || !sameWorld(got, want) {
				t.Errorf("Perform(%q) is %s, %d, not %s", text, worldText(got), line, worldText(want))
			}
		}
		steps += len(d.steps)
		if want.Up {
			ups++
		} else {
			downs++
		}
	}
	if ups < 40 || downs < 20 || steps < 700 {
		t.Errorf("%d are up, %d down, %d steps: too few to tell", ups, downs, steps)
	}
}

// changedLines takes out a line, puts one in, lets two change places, or changes some bytes.
func changedLines(draw *rand.Rand, lines []string) string {
	l := slices.Clone(lines)
	i, k := draw.Intn(len(l)), draw.Intn(len(l))
	odd := []string{"stop\n", "start\n", "crash\n", "begin 0/0/0 1\n", "begin 1/1/1 61\n", "switch 0\n", "node 1 1/1/1\n", "do go 5\n", "torn 3 go 5\n", " \n", "start", "node ", "#", "\n\n"}
	switch draw.Intn(5) {
	case 0:
		l = slices.Delete(l, i, i+1)
	case 1:
		l = slices.Insert(l, i, odd[draw.Intn(len(odd))])
	case 2:
		l[i], l[k] = l[k], l[i]
	case 3:
		l[i] = odd[draw.Intn(len(odd))]
	case 4:
		return string(changedBytes(draw, []byte(strings.Join(l, ""))))
	}
	return strings.Join(l, "")
}

func TestPerformOfChangedTexts(t *testing.T) {
	draw := rand.New(rand.NewSource(129))
	right, lines := 0, map[int]int{}
	for _, d := range drawnScripts(t, 130, 8) {
		for range 40 {
			text := changedLines(draw, withRemarks(draw, d.lines))
			line := performIsRight(t, fmt.Sprintf("%q", text), text)
			if line == 0 {
				right++
			} else {
				lines[line]++
			}
		}
	}
	if right < 500 || len(lines) < 15 {
		t.Errorf("%d are right, wrong are the lines %v: too few to tell", right, lines)
	}
}

func TestPerformOfEveryShortText(t *testing.T) {
	everyRow([]string{"switch 0\n", "node 0 1/1/1\n", "begin 1/1/1 1\n", "begin 0/0/0 61\n", "start\n", "crash", "#", "\n", "do go 5\n"}, 4, func(text string) {
		performIsRight(t, fmt.Sprintf("%q", text), text)
	})
	everyRow([]string{"begin", " ", "1/0/2", "1", "60", "61", "\n", "node "}, 5, func(text string) {
		performIsRight(t, fmt.Sprintf("%q", text), text)
	})
}

func TestReportByHand(t *testing.T) {
	one, two := planJob(1, 2, 2, 10, 0), planJob(2, 0, 2, 10, 0)
	many := worldFrom(t, stateAt(7), start, do(submit(one)), do(submit(two)), do(submit(planJob(3, 9, 1, 5, 1))), do(submit(planJob(4, 0, 3, 5, 1))))
	ended := worldFrom(t, stateAt(0), start, do(submit(one)), do(submit(two)), do(submit(planJob(3, 9, 1, 5, 1))), do(goTo(6)), do(impl.Cmd{Kind: 2, N: 2}), do(impl.Cmd{Kind: 4, N: 0}), do(impl.Cmd{Kind: 4, N: 1}))
	deep := stateAt(0)
	deep.Depth = 2
	for name, c := range map[string]struct {
		w    impl.World
		want string
	}{
		"down, nothing on the disk":        {worldFrom(t, stateAt(0)), "down 0\n"},
		"down, two records":                {downWorld(t), "down 64\n"},
		"down, a torn record":              {worldFrom(t, stateAt(0), start, torn(goTo(5), 4)), "down 4\n"},
		"down, the most bytes":             {impl.World{First: stateAt(0), Bytes: bytes.Repeat([]byte("x"), 40000)}, "down 40000\n"},
		"up, nothing":                      {worldFrom(t, stateAt(0), start), "now 0\n"},
		"up, late":                         {worldFrom(t, stateAt(impl.MaxTime), start), "now 1000000000\n"},
		"up, one runs, one waits":          {upWorld(t), "now 0\nwait 2\nrun 1 0 0 1\nlater 2 10 0 1\n"},
		"up, the queue isn't in rank":      {many, "now 7\nwait 2\nwait 4\nrun 1 7 0 1\nrun 3 7 2\nlater 2 17 0 1\n"},
		"up, ends of three kinds":          {ended, "now 6\nwait 1\nend 3 5 1\nend 2 6 3\nend 1 6 4\n"},
		"up, one that can't be told later": {worldFrom(t, stateAt(0), start, do(impl.Cmd{Kind: 4, N: 2}), do(submit(planJob(1, 0, 3, 5, 1)))), "now 0\nwait 1\n"},
		"up, two told later":               {worldFrom(t, deep, start, do(submit(one)), do(submit(two)), do(submit(planJob(3, 1, 2, 5, 0)))), "now 0\nwait 2\nwait 3\nrun 1 0 0 1\nlater 3 10 0 1\nlater 2 15 0 1\n"},
		"up, a job on all nodes":           {worldFrom(t, stateAt(0), start, do(submit(planJob(999, 0, 3, 5, 1)))), "now 0\nrun 999 0 0 1 2\n"},
	} {
		if got := impl.Report(c.w); got != c.want || reportOf(c.w) != c.want {
			t.Errorf("%s: Report is %q, not %q", name, got, c.want)
		}
		if !impl.WorldOk(c.w) {
			t.Errorf("%s: the world isn't right", name)
		}
	}
}

// No word asks of a report that the world is right: what is there is told, and Later of it; what is no time has no number.
func TestReportOfWrongWorlds(t *testing.T) {
	up := func(s impl.State) impl.World { return impl.World{Up: true, Ctl: impl.Ctl{State: s}} }
	odd := impl.State{Now: -1, Queue: []impl.Job{{}, {Id: 1000000001}}, Runs: []impl.Run{{}, {At: -3, Nodes: []int{9, -1, 9}}}, Ends: []impl.End{{Id: -2, At: math.MaxInt, Why: 77}}}
	late := busy()
	late.Ends = append(late.Ends, impl.End{Id: 1, At: 6, Why: 1})
	for name, c := range map[string]struct {
		w    impl.World
		want string
	}{
		"nothing":                   {impl.World{}, "down 0\n"},
		"nothing, but up":           {impl.World{Up: true}, "now 0\n"},
		"down with too many bytes":  {impl.World{Bytes: make([]byte, 40001)}, "down 40001\n"},
		"down with a Ctl":           {impl.World{Ctl: smallCtl(t)}, "down 0\n"},
		"up with bytes":             {impl.World{Up: true, Bytes: make([]byte, 5)}, "now 0\n"},
		"up, only the state is":     {up(smallCtl(t).State), "now 0\nwait 2\nrun 1 0 0 1\nlater 2 10 0 1\n"},
		"up, a busy state":          {up(busy()), "now 5\nwait 3\nwait 4\nrun 1 0 0\nrun 2 5 1 2\nend 5 0 2\nend 6 5 4\nlater 4 25 2\n"},
		"up, a state that isn't ok": {up(late), "now 5\nwait 3\nwait 4\nrun 1 0 0\nrun 2 5 1 2\nend 5 0 2\nend 6 5 4\nend 1 6 1\n"},
		"up, with odd numbers":      {up(odd), "now \nwait 0\nwait \nrun 0 0\nrun 0  9  9\nend   77\n"},
	} {
		if got := impl.Report(c.w); got != c.want || reportOf(c.w) != c.want {
			t.Errorf("%s: Report is %q, not %q", name, got, c.want)
		}
	}
	for name, w := range wrongWorlds(t) {
		if got := impl.Report(w); got != reportOf(w) {
			t.Errorf("%s: Report is %q, not %q", name, got, reportOf(w))
		}
	}
}

func TestReportOfDrawnWorlds(t *testing.T) {
	words := map[string]int{}
	l := slices.Concat(drawnWorlds(t, 131, 25), drawnWorlds(t, 132, 25))
	for _, s := range drawnStates(133) {
		l = append(l, impl.World{Up: true, Ctl: impl.Ctl{State: s}})
	}
	for _, w := range l {
		got := impl.Report(w)
		if got != reportOf(w) {
			t.Errorf("Report of %s is %q, not %q", worldText(w), got, reportOf(w))
		}
		for l := range strings.Lines(got) {
			word, _, _ := strings.Cut(strings.TrimSuffix(l, "\n"), " ")
			words[word]++
		}
	}
	for _, word := range []string{"down", "now", "wait", "run", "end", "later"} {
		if words[word] < 30 {
			t.Errorf("%d lines with %s: too few to tell", words[word], word)
		}
	}
}

func TestUseByHand(t *testing.T) {
	small := func(id int, need impl.Vec) impl.Job {
		return impl.Job{Id: id, Nodes: 2, Need: need, Lic: vec(1, 1, 1), Wall: 9, Level: 1}
	}
	shared := stateAt(5, runOf(small(1, vec(1, 0, 2)), 1, 0, 2), runOf(small(2, vec(2, 1, 0)), 2, 0, 1), runOf(small(3, vec(1, 3, 2)), 5, 0, 2))
	shared.Queue = []impl.Job{planJob(9, 0, 3, 5, 1)}
	none := stateAt(0)
	none.Topo.Nodes, none.Up = nil, nil
	down := stateAt(0, runOf(planJob(1, 0, 1, 5, 0), 0, 0))
	down.Up[2] = false
	for name, c := range map[string]struct {
		s    impl.State
		want []impl.Vec
	}{
		"nothing":              {impl.State{}, []impl.Vec{{}}},
		"no nodes":             {none, []impl.Vec{{}}},
		"nothing runs":         {stateAt(0), []impl.Vec{{}, {}, {}, {}}},
		"two that run":         {busy(), []impl.Vec{vec(3, 0, 0), vec(3, 0, 0), vec(3, 0, 0), {}}},
		"three on a node":      {shared, []impl.Vec{vec(4, 4, 4), vec(2, 1, 0), vec(2, 3, 4), {}}},
		"a node that is down":  {down, []impl.Vec{vec(3, 0, 0), {}, {}, {}}},
		"one that needs none":  {stateAt(0, runOf(impl.Job{Id: 1, Nodes: 3, Wall: 5, Level: 1}, 0, 0, 1, 2)), []impl.Vec{{}, {}, {}, {}}},
		"in its last time":     {stateAt(9, runOf(planJob(1, 0, 1, 10, 0), 0, 1)), []impl.Vec{{}, vec(3, 0, 0), {}, {}}},
		"one whose end is now": {stateAt(10, runOf(planJob(1, 0, 1, 10, 0), 0, 1)), []impl.Vec{{}, {}, {}, {}}},
	} {
		for n, want := range c.want {
			if got := impl.Use(c.s, n); got != want || useOf(c.s, n) != want {
				t.Errorf("%s: Use of %d is %v, not %v", name, n, got, want)
			}
		}
		for _, n := range placeEdges {
			if got := impl.Use(c.s, n); got != useOf(c.s, n) {
				t.Errorf("%s: Use of %d is %v", name, n, got)
			}
		}
	}
	full := fullState(60)
	for n := range 26 {
		if got := impl.Use(full, n); got != useOf(full, n) {
			t.Errorf("of 60 jobs Use of %d is %v", n, got)
		}
	}
	most := impl.State{Topo: impl.Topo{Parents: []int{0}, Nodes: []impl.Node{{Cap: vec(1000000, 1000000, 0)}}}, Up: []bool{true}}
	most.Runs = []impl.Run{runOf(impl.Job{Id: 1, Nodes: 1, Need: vec(999999, 1000000, 0), Wall: 1}, 0, 0), runOf(impl.Job{Id: 2, Nodes: 1, Need: vec(1, 0, 0), Wall: 1}, 0, 0)}
	if got := impl.Use(most, 0); got != vec(1000000, 1000000, 0) || !impl.StateOk(most) {
		t.Errorf("Use of a full node is %v", got)
	}
}

func TestUseOfDrawnStates(t *testing.T) {
	draw := rand.New(rand.NewSource(134))
	some, none := 0, 0
	for _, s := range drawnStates(135) {
		for _, q := range []impl.State{s, changedState(draw, s), changedState(draw, s)} {
			for _, n := range []int{math.MinInt, -1, 0, 1, 2, 3, 4, 5, len(q.Topo.Nodes) - 1, len(q.Topo.Nodes), 23, 24, math.MaxInt} {
				got := impl.Use(q, n)
				if got != useOf(q, n) {
					t.Errorf("Use of %d is %v in %+v", n, got, q)
				}
				if got == (impl.Vec{}) {
					none++
				} else {
					some++
				}
			}
		}
	}
	if some < 300 || none < 300 {
		t.Errorf("%d are used, %d not: too few to tell", some, none)
	}
}

func TestUseOfWrongStates(t *testing.T) {
	for name, s := range wrongStates() {
		for n := -1; n <= len(s.Up); n++ {
			if got := impl.Use(s, n); got != (impl.Vec{}) {
				t.Errorf("%s: Use of %d is %v", name, n, got)
			}
		}
	}
}

// worldLists has for each list of the world what writes all over it, up to its capacity.
func worldLists(w impl.World) []func() {
	return slices.Concat(ctlLists(w.Ctl), stateLists(w.First), []func(){func() { writeOver(w.Bytes, '?') }, func() { writeOver(w.Codes, -7) }})
}

// sharedWorld has lists with memory behind them; where two are the same, they are the very same list.
func sharedWorld(w impl.World) impl.World {
	q := w
	q.Ctl = sharedCtl(w.Ctl)
	q.First = q.Ctl.First
	if !w.Up {
		q.Ctl = impl.Ctl{}
		q.First = sharedState(w.First)
	}
	q.Bytes, q.Codes = withRoomBehind(w.Bytes, '#'), withRoomBehind(w.Codes, -3)
	return q
}

// wholeWorld is the world with all that lies behind its lists.
func wholeWorld(w impl.World) impl.World {
	q := w
	q.First, q.Ctl.First, q.Ctl.State = wholeState(w.First), wholeState(w.Ctl.First), wholeState(w.Ctl.State)
	q.Ctl.Journal.Bytes = w.Ctl.Journal.Bytes[:cap(w.Ctl.Journal.Bytes)]
	q.Bytes, q.Codes = w.Bytes[:cap(w.Bytes)], w.Codes[:cap(w.Codes)]
	return q
}

func worldsToShare(t *testing.T) []impl.World {
	t.Helper()
	l := []impl.World{upWorld(t), downWorld(t)}
	for i, w := range drawnWorlds(t, 136, 15) {
		if i%5 == 0 {
			l = append(l, w)
		}
	}
	return l
}

// stepsToShare has a step of each kind; most of the commands can be taken.
func stepsToShare(w impl.World) []impl.Step {
	l := []impl.Step{crash, start, {}}
	for i, x := range cmdsToShare(w.Ctl) {
		l = append(l, do(x))
		if i%3 == 0 {
			l = append(l, torn(x, 4), torn(x, 99))
		}
	}
	return l
}

// worldAnswers has the worlds that are worked out of w.
func worldAnswers(w impl.World) []impl.World {
	fresh, _ := impl.WorldNew(w.First)
	l := []impl.World{fresh, impl.Play(w, nil), impl.Play(w, []impl.Step{{}, crash, start}), impl.Play(w, []impl.Step{start, do(goTo(w.First.Now)), do(goTo(w.First.Now)), crash, start})}
	for _, s := range stepsToShare(w) {
		l = append(l, impl.Do(w, s))
	}
	return l
}

func TestWorldsAreLeftAlone(t *testing.T) {
	written := 0
	for _, world := range worldsToShare(t) {
		w := sharedWorld(world)
		if !impl.WorldOk(w) {
			t.Fatalf("%s isn't right", worldText(w))
		}
		whole := func() impl.World { return worldCopy(wholeWorld(w)) }
		kept := whole()
		for _, answer := range worldAnswers(w) {
			for _, write := range worldLists(answer) {
				write()
				written++
			}
		}
		impl.WorldOk(w)
		impl.Report(w)
		for n := range w.Ctl.State.Up {
			impl.Use(w.Ctl.State, n)
		}
		if !reflect.DeepEqual(whole(), kept) {
			t.Errorf("%s has become %s", worldText(kept), worldText(w))
		}
	}
	if written < 5000 {
		t.Errorf("%d lists were written over: too few to tell", written)
	}
}

func TestStepsAreLeftAlone(t *testing.T) {
	w := upWorld(t)
	l := withRoomBehind([]impl.Step{do(goTo(3)), torn(goTo(4), 3), start, do(submit(planJob(9, 0, 1, 5, 0))), crash}, impl.Step{Keep: -3})
	whole := l[:cap(l)]
	kept := slices.Clone(whole)
	first := impl.Play(w, l)
	if !slices.Equal(whole, kept) {
		t.Errorf("the steps have become %+v", whole)
	}
	writeOver(l, impl.Step{Kind: 3})
	if again := impl.Play(w, kept[:5]); !sameWorld(first, again) {
		t.Errorf("the world has changed with the steps: %s", worldText(first))
	}
}

func TestNoTwoListsOfAWorldShareMemory(t *testing.T) {
	lists := 0
	alone := func(name string, answers func() []impl.World) {
		for i, more := 0, true; more; i++ {
			more = false
			for k, answer := range answers() {
				if i >= len(worldLists(answer)) {
					continue
				}
				want := worldCopy(answer)
				worldLists(answer)[i]()
				// The same is written over in the copy, which shares nothing.
				worldLists(want)[i]()
				if !sameWorld(answer, want) {
					t.Errorf("the answer %d of %s: its list %d shares memory with another", k, name, i)
				}
				more = true
				lists++
			}
		}
	}
	for _, world := range worldsToShare(t) {
		w := sharedWorld(world)
		alone(worldText(w), func() []impl.World { return worldAnswers(w) })
	}
	for _, d := range drawnScripts(t, 137, 6)[:20] {
		text := strings.Join(d.lines, "")
		alone(text, func() []impl.World {
			w, _ := impl.Perform(text)
			return []impl.World{w}
		})
	}
	if lists < 5000 {
		t.Errorf("%d lists: too few to tell", lists)
	}
}

// Whoever has the arguments or an answer may write to them again: the other answers stay as they were.
func TestWorldAnswersAreKeptByNobody(t *testing.T) {
	for _, world := range worldsToShare(t) {
		w := sharedWorld(world)
		once, again := worldAnswers(w), worldAnswers(w)
		for _, answer := range once {
			for _, write := range worldLists(answer) {
				write()
			}
		}
		if !slices.EqualFunc(again, worldAnswers(w), sameWorld) {
			t.Errorf("the answers of %s have changed", worldText(w))
		}
		var kept []impl.World
		for _, answer := range again {
			kept = append(kept, worldCopy(answer))
		}
		for _, write := range worldLists(w) {
			write()
		}
		if !slices.EqualFunc(again, kept, sameWorld) {
			t.Error("answers have changed with what was handed in")
		}
	}
}

func TestNoCallOfTheWholePanics(t *testing.T) {
	steps := []impl.Step{{}, do(goTo(5)), torn(goTo(5), math.MinInt), torn(impl.Cmd{Kind: 4, N: 1}, math.MaxInt), crash, start, {Kind: math.MinInt}, {Kind: math.MaxInt}}
	for _, s := range oddStates() {
		for _, b := range [][]byte{nil, {0}, []byte("0 go 5\n"), []byte("0 submit\n"), bytes.Repeat([]byte("0 go 5\n"), 6000)} {
			for _, n := range []int{math.MinInt, -1, 0, 1, len(b), math.MaxInt} {
				c := impl.Ctl{First: s, State: s, Journal: impl.Journal{Bytes: b, Synced: n, Count: n}}
				for _, w := range []impl.World{{Up: true, First: s, Ctl: c}, {First: s, Bytes: b}, {First: s, Ctl: c, Bytes: b}, {Up: true, Ctl: c, Bytes: b, Codes: []int{n}}} {
					if panics(func() {
						impl.WorldOk(w)
						impl.Report(w)
						impl.Use(s, n)
						impl.Play(w, nil)
						impl.Play(w, steps)
						for _, step := range steps {
							impl.Do(w, step)
						}
					}) {
						t.Errorf("a call panics at %s", worldText(w))
					}
				}
			}
		}
		if panics(func() { impl.WorldNew(s); impl.Use(s, 0); impl.Use(s, 1); impl.Use(s, 2) }) {
			t.Errorf("a call panics at %+v", s)
		}
	}
	up, down := upWorld(t), downWorld(t)
	for _, c := range oddCmds() {
		for kind := -1; kind <= 5; kind++ {
			s := impl.Step{Kind: kind, Cmd: c, Keep: c.N}
			if panics(func() { impl.StepText(s); impl.Do(up, s); impl.Do(down, s) }) {
				t.Errorf("a call panics with %+v", s)
			}
		}
	}
	draw := rand.New(rand.NewSource(138))
	words := []string{"switch ", "node ", "begin ", "do ", "torn ", "crash", "start", "submit ", "lic ", "go ", "0", "1", "61", "/", " ", "\n", "#", "\x00", "\xff", "0/0/0", " 1\n"}
	for range 20000 {
		text := ""
		for range draw.Intn(20) {
			text += words[draw.Intn(len(words))]
		}
		if panics(func() { impl.TextStep(text); impl.Perform(text); impl.Perform("begin 0/0/0 1\n" + text) }) {
			t.Errorf("a call panics at %q", text)
		}
	}
}

// Runs lie in a map on the way, but what is told doesn't hang on the order in which a map is gone through.
func TestWorldAnswersAreAlwaysTheSame(t *testing.T) {
	text := smallTree + "begin 4/4/4 3\nstart\n"
	for i := range 40 {
		text += fmt.Sprintf("do submit %d %d 1 0/0/1 0/0/0 %d 0\n", 100+i, i%4, 3+i%3)
	}
	text += "do go 4\ncrash\nstart\ndo fail 1\ntorn 3 go 9\nstart\ndo go 9\n"
	w, line := impl.Perform(text)
	report := impl.Report(w)
	if line != 0 || strings.Count(report, "end ") < 20 || strings.Count(report, "run ") < 5 {
		t.Fatalf("Perform is %s, %d", worldText(w), line)
	}
	for range 30 {
		if again, _ := impl.Perform(text); !sameWorld(again, w) || impl.Report(again) != report {
			t.Fatalf("Perform is %s, then %s", worldText(w), worldText(again))
		}
	}
}
