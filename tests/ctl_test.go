package tests

import (
	"bytes"
	"fmt"
	"math"
	"math/rand"
	"reflect"
	"regexp"
	"slices"
	"strconv"
	"strings"
	"testing"

	"loop.example/g00454/impl"
)

// cmdRight is what the document says of CmdOk, with its numbers: first what is there, then what has to be zero.
func cmdRight(c impl.Cmd) bool {
	job, n, lic := c.Job == impl.Job{}, c.N == 0, c.Lic == impl.Vec{}
	switch c.Kind {
	case 1:
		return jobRight(c.Job) && n && lic
	case 2, 3:
		return c.N >= 1 && c.N <= 999 && job && lic
	case 4, 5:
		return c.N >= 0 && c.N <= 23 && job && lic
	case 6:
		return vecRight(c.Lic) && job && n
	case 7:
		return c.N >= 0 && c.N <= 1000000000 && job && lic
	}
	return false
}

func slashed(v impl.Vec) string { return fmt.Sprintf("%d/%d/%d", v.A, v.B, v.C) }

func cmdTextOf(c impl.Cmd) string {
	if !cmdRight(c) {
		return ""
	}
	j := c.Job
	return []string{
		1: fmt.Sprintf("submit %d %d %d %s %s %d %d", j.Id, j.Prio, j.Nodes, slashed(j.Need), slashed(j.Lic), j.Wall, j.Level),
		2: fmt.Sprint("cancel ", c.N), 3: fmt.Sprint("done ", c.N), 4: fmt.Sprint("fail ", c.N), 5: fmt.Sprint("resume ", c.N),
		6: "lic " + slashed(c.Lic), 7: fmt.Sprint("go ", c.N),
	}[c.Kind]
}

var (
	numberForm   = `(0|[1-9][0-9]*)`
	slashForm    = numberForm + "/" + numberForm + "/" + numberForm
	submitForm   = regexp.MustCompile(`\Asubmit ` + strings.Join([]string{numberForm, numberForm, numberForm, slashForm, slashForm, numberForm, numberForm}, " ") + `\z`)
	licForm      = regexp.MustCompile(`\Alic ` + slashForm + `\z`)
	numberedForm = regexp.MustCompile(`\A(cancel|done|fail|resume|go) ` + numberForm + `\z`)
)

// formCmd reads a text by its form, and asks then whether the numbers are right.
func formCmd(s string) (impl.Cmd, bool) {
	var c impl.Cmd
	var digits []string
	var fields []*int
	if l := submitForm.FindStringSubmatch(s); l != nil {
		c.Kind, digits, fields = 1, l[1:], jobFields(&c.Job)
	} else if l := licForm.FindStringSubmatch(s); l != nil {
		c.Kind, digits, fields = 6, l[1:], []*int{&c.Lic.A, &c.Lic.B, &c.Lic.C}
	} else if l := numberedForm.FindStringSubmatch(s); l != nil {
		c.Kind, digits, fields = map[string]int{"cancel": 2, "done": 3, "fail": 4, "resume": 5, "go": 7}[l[1]], l[2:], []*int{&c.N}
	}
	for i, d := range digits {
		n, err := strconv.Atoi(d)
		if err != nil {
			return impl.Cmd{}, false
		}
		*fields[i] = n
	}
	if !cmdRight(c) {
		return impl.Cmd{}, false
	}
	return c, true
}

// applyOf goes time by time where c is go, so it is asked of times near to each other only.
func applyOf(s impl.State, c impl.Cmd) (impl.State, int) {
	if !cmdRight(c) || !stateRight(s) {
		return impl.State{}, 1
	}
	switch c.Kind {
	case 1:
		return submitOf(s, c.Job)
	case 2:
		return finishOf(s, c.N, 3)
	case 3:
		return finishOf(s, c.N, 2)
	case 4:
		return failOf(s, c.N)
	case 5:
		return resumeOf(s, c.N)
	case 6:
		return resizeOf(s, c.Lic)
	}
	q, ok := untilOf(s, c.N)
	if !ok {
		return impl.State{}, 10
	}
	return q, 0
}

func firstRight(s impl.State) bool {
	return stateRight(s) && len(s.Queue)+len(s.Runs)+len(s.Ends) == 0
}

// replayOf applies the texts one after the other.
func replayOf(first impl.State, texts []string) (impl.State, bool) {
	s := first
	for _, text := range texts {
		c, ok := formCmd(text)
		if !ok {
			return impl.State{}, false
		}
		next, code := applyOf(s, c)
		if code != 0 {
			return impl.State{}, false
		}
		s = next
	}
	return s, true
}

func ctlRight(c impl.Ctl) bool {
	if !firstRight(c.First) || !journalRight(c.Journal) {
		return false
	}
	texts, _ := recordsOf(c.Journal.Bytes)
	s, ok := replayOf(c.First, texts)
	return ok && sameState(s, c.State)
}

// addedOf is the controller behind x, with the codes of Take, x not synced.
func addedOf(c impl.Ctl, x impl.Cmd) (impl.Ctl, int) {
	if !ctlRight(c) {
		return impl.Ctl{}, 20
	}
	s, code := applyOf(c.State, x)
	if code != 0 {
		return impl.Ctl{}, code
	}
	j, code := addOf(c.Journal, cmdTextOf(x))
	if code != 0 {
		return impl.Ctl{}, 21
	}
	return impl.Ctl{First: c.First, State: s, Journal: j}, 0
}

func takeOf(c impl.Ctl, x impl.Cmd) (impl.Ctl, int) {
	d, code := addedOf(c, x)
	d.Journal.Synced = len(d.Journal.Bytes)
	return d, code
}

func tornOf(c impl.Ctl, x impl.Cmd, keep int) ([]byte, int) {
	d, code := addedOf(c, x)
	if code != 0 {
		return nil, code
	}
	// Byte by byte: the most is put in the place of what is more than all.
	return crashOf(d.Journal, min(keep, 100000)), 0
}

func foundOf(first impl.State, b []byte) (impl.Ctl, int) {
	if !firstRight(first) || len(b) > 40000 {
		return impl.Ctl{}, 1
	}
	texts, _ := recordsOf(b)
	s, ok := replayOf(first, texts)
	if !ok {
		return impl.Ctl{}, 2
	}
	return impl.Ctl{First: first, State: s, Journal: openOf(b)}, 0
}

func sameCtl(a, b impl.Ctl) bool {
	return sameState(a.First, b.First) && sameState(a.State, b.State) && sameJournal(a.Journal, b.Journal)
}

func noCtl(c impl.Ctl) bool { return sameCtl(c, impl.Ctl{}) }

func ctlCopy(c impl.Ctl) impl.Ctl {
	return impl.Ctl{First: stateCopy(c.First), State: stateCopy(c.State), Journal: journalCopy(c.Journal)}
}

func ctlText(c impl.Ctl) string {
	return fmt.Sprintf("from %s to %s with %s", stateText(c.First), stateText(c.State), journalText(c.Journal))
}

// drawnFirst has nothing that waits, runs or ended; now and then some nodes aren't up, or it is late.
func drawnFirst(draw *rand.Rand, topo impl.Topo) impl.State {
	s := impl.State{Topo: withCaps(draw, topo), Lic: vec(draw.Intn(5), 1+draw.Intn(4), 1+draw.Intn(4)), Depth: []int{0, 1, 1, 2, 60}[draw.Intn(5)]}
	for range topo.Nodes {
		s.Up = append(s.Up, draw.Intn(8) > 0)
	}
	switch draw.Intn(6) {
	case 0:
		s.Now = draw.Intn(8)
	case 1:
		s.Now = impl.MaxTime - draw.Intn(40)
	}
	return s
}

// wrongCmds has commands that aren't right, each for one cause.
func wrongCmds() []impl.Cmd {
	job, lic := planJob(1, 0, 1, 5, 0), vec(1, 2, 3)
	l := []impl.Cmd{{}, {Kind: 8}, {Kind: -1}, {Kind: 99}, {Kind: math.MinInt}, {Kind: math.MaxInt}, {Job: job}, {N: 5}, {Lic: lic}}
	for _, j := range wrongJobs() {
		l = append(l, impl.Cmd{Kind: impl.CmdSubmit, Job: j})
	}
	for _, n := range placeEdges {
		for kind := impl.CmdCancel; kind <= impl.CmdGo; kind++ {
			if c := (impl.Cmd{Kind: kind, N: n}); kind != impl.CmdLic && !cmdRight(c) {
				l = append(l, c)
			}
		}
	}
	for _, n := range edges {
		if !amountRight(n) {
			l = append(l, impl.Cmd{Kind: impl.CmdLic, Lic: vec(n, 0, 0)}, impl.Cmd{Kind: impl.CmdLic, Lic: vec(1, n, 2)}, impl.Cmd{Kind: impl.CmdLic, Lic: vec(n, n, n)})
		}
	}
	return append(l,
		impl.Cmd{Kind: impl.CmdSubmit, Job: job, N: 1}, impl.Cmd{Kind: impl.CmdSubmit, Job: job, Lic: vec(0, 0, 1)},
		impl.Cmd{Kind: impl.CmdCancel, N: 1, Job: job}, impl.Cmd{Kind: impl.CmdDone, N: 1, Lic: lic},
		impl.Cmd{Kind: impl.CmdLic, Lic: lic, N: 1}, impl.Cmd{Kind: impl.CmdLic, Lic: lic, Job: job},
		impl.Cmd{Kind: impl.CmdGo, N: 9, Lic: vec(0, 1, 0)}, impl.Cmd{Kind: impl.CmdFail, Job: job},
	)
}

var someWrongCmds = wrongCmds()

// drawnCmd is most often one that can be taken in the state.
func drawnCmd(draw *rand.Rand, s impl.State) impl.Cmd {
	id := 1 + draw.Intn(999)
	if all := jobsOf(s); len(all) > 0 && draw.Intn(5) > 0 {
		id = all[draw.Intn(len(all))].Id
	}
	node := draw.Intn(len(s.Topo.Nodes) + 1)
	switch draw.Intn(14) {
	case 0:
		return impl.Cmd{Kind: impl.CmdCancel, N: id}
	case 1:
		return impl.Cmd{Kind: impl.CmdDone, N: id}
	case 2:
		return impl.Cmd{Kind: impl.CmdFail, N: node}
	case 3:
		if down := slices.Index(s.Up, false); down >= 0 {
			node = down
		}
		return impl.Cmd{Kind: impl.CmdResume, N: node}
	case 4:
		return impl.Cmd{Kind: impl.CmdLic, Lic: vec(draw.Intn(5), draw.Intn(5), draw.Intn(5))}
	case 5, 6, 7:
		return impl.Cmd{Kind: impl.CmdGo, N: max(0, s.Now+draw.Intn(7)-1)}
	case 8:
		if draw.Intn(3) == 0 {
			return someWrongCmds[draw.Intn(len(someWrongCmds))]
		}
	}
	j := drawnJob(draw)
	j.Prio = draw.Intn(4)
	if draw.Intn(12) == 0 {
		j.Id = id
	}
	return impl.Cmd{Kind: impl.CmdSubmit, Job: j}
}

// ctlFrom takes the commands, each of which has to be taken.
func ctlFrom(t *testing.T, first impl.State, cmds ...impl.Cmd) impl.Ctl {
	t.Helper()
	c, ok := impl.CtlNew(first)
	if !ok {
		t.Fatalf("CtlNew(%+v) is false", first)
	}
	return ctlBehind(t, c, cmds...)
}

func ctlBehind(t *testing.T, c impl.Ctl, cmds ...impl.Cmd) impl.Ctl {
	t.Helper()
	for _, x := range cmds {
		d, code := impl.Take(c, x)
		if code != 0 {
			t.Fatalf("Take of %+v in %s has the code %d", x, ctlText(c), code)
		}
		c = d
	}
	return c
}

// drawnCtl takes up to so many drawn commands; those that are refused are passed over.
func drawnCtl(t *testing.T, draw *rand.Rand, topo impl.Topo, most int) impl.Ctl {
	t.Helper()
	c := ctlFrom(t, drawnFirst(draw, topo))
	for range draw.Intn(most + 1) {
		if d, code := impl.Take(c, drawnCmd(draw, c.State)); code == 0 {
			c = d
		}
	}
	return c
}

func drawnCtls(t *testing.T, seed int64, most int) []impl.Ctl {
	t.Helper()
	var l []impl.Ctl
	draw := rand.New(rand.NewSource(seed))
	for _, topo := range smallTopos() {
		for range 4 {
			l = append(l, drawnCtl(t, draw, topo, most))
		}
	}
	return l
}

func goTo(n int) impl.Cmd { return impl.Cmd{Kind: impl.CmdGo, N: n} }

func submit(j impl.Job) impl.Cmd { return impl.Cmd{Kind: impl.CmdSubmit, Job: j} }

func TestCtlLimits(t *testing.T) {
	got := []int{impl.CmdSubmit, impl.CmdCancel, impl.CmdDone, impl.CmdFail, impl.CmdResume, impl.CmdLic, impl.CmdGo}
	if !slices.Equal(got, []int{1, 2, 3, 4, 5, 6, 7}) {
		t.Errorf("the kinds of commands are %v", got)
	}
}

func TestCmdOk(t *testing.T) {
	for name, c := range map[string]struct {
		c    impl.Cmd
		want bool
	}{
		"nothing":                   {impl.Cmd{}, false},
		"submit":                    {submit(planJob(1, 0, 1, 5, 0)), true},
		"submit of no job":          {impl.Cmd{Kind: 1}, false},
		"submit with N":             {impl.Cmd{Kind: 1, Job: planJob(1, 0, 1, 5, 0), N: 1}, false},
		"submit with Lic":           {impl.Cmd{Kind: 1, Job: planJob(1, 0, 1, 5, 0), Lic: vec(0, 0, 1)}, false},
		"submit with the job's Lic": {submit(withLic(planJob(1, 0, 1, 5, 0), vec(1, 0, 0))), true},
		"cancel 0":                  {impl.Cmd{Kind: 2}, false},
		"cancel 1":                  {impl.Cmd{Kind: 2, N: 1}, true},
		"cancel 999":                {impl.Cmd{Kind: 2, N: 999}, true},
		"cancel 1000":               {impl.Cmd{Kind: 2, N: 1000}, false},
		"done 0":                    {impl.Cmd{Kind: 3}, false},
		"done 1":                    {impl.Cmd{Kind: 3, N: 1}, true},
		"done 999":                  {impl.Cmd{Kind: 3, N: 999}, true},
		"done 1000":                 {impl.Cmd{Kind: 3, N: 1000}, false},
		"fail -1":                   {impl.Cmd{Kind: 4, N: -1}, false},
		"fail 0":                    {impl.Cmd{Kind: 4}, true},
		"fail 23":                   {impl.Cmd{Kind: 4, N: 23}, true},
		"fail 24":                   {impl.Cmd{Kind: 4, N: 24}, false},
		"resume -1":                 {impl.Cmd{Kind: 5, N: -1}, false},
		"resume 0":                  {impl.Cmd{Kind: 5}, true},
		"resume 23":                 {impl.Cmd{Kind: 5, N: 23}, true},
		"resume 24":                 {impl.Cmd{Kind: 5, N: 24}, false},
		"lic of nothing":            {impl.Cmd{Kind: 6}, true},
		"lic of the most":           {impl.Cmd{Kind: 6, Lic: vec(1000000, 1000000, 1000000)}, true},
		"lic of one more":           {impl.Cmd{Kind: 6, Lic: vec(0, 0, 1000001)}, false},
		"lic below 0":               {impl.Cmd{Kind: 6, Lic: vec(-1, 0, 0)}, false},
		"go -1":                     {impl.Cmd{Kind: 7, N: -1}, false},
		"go 0":                      {impl.Cmd{Kind: 7}, true},
		"go 1000000000":             {impl.Cmd{Kind: 7, N: 1000000000}, true},
		"go 1000000001":             {impl.Cmd{Kind: 7, N: 1000000001}, false},
		"the kind 8":                {impl.Cmd{Kind: 8}, false},
		"the kind 8 with all":       {impl.Cmd{Kind: 8, Job: planJob(1, 0, 1, 5, 0), N: 1, Lic: vec(1, 1, 1)}, false},
		"the kind -1":               {impl.Cmd{Kind: -1, N: 1}, false},
	} {
		if got := impl.CmdOk(c.c); got != c.want || cmdRight(c.c) != c.want {
			t.Errorf("%s: CmdOk is %v", name, got)
		}
	}
	for _, c := range wrongCmds() {
		if cmdRight(c) || impl.CmdOk(c) {
			t.Errorf("CmdOk(%+v) is true", c)
		}
	}
}

// rightCmds has a right command of each kind.
func rightCmds() []impl.Cmd {
	return []impl.Cmd{
		submit(impl.Job{Id: 7, Prio: 6, Nodes: 5, Need: vec(4, 3, 2), Lic: vec(9, 8, 7), Wall: 11, Level: 12}),
		{Kind: 2, N: 5}, {Kind: 3, N: 5}, {Kind: 4, N: 5}, {Kind: 5, N: 5}, {Kind: 6, Lic: vec(1, 2, 3)}, {Kind: 7, N: 5},
	}
}

// cmdFields has all numbers of the command but its kind, those of its job first.
func cmdFields(c *impl.Cmd) []*int {
	return append(jobFields(&c.Job), &c.N, &c.Lic.A, &c.Lic.B, &c.Lic.C)
}

// Each field of each kind is set to every edge: the right one may be, all else has to be zero.
func TestCmdOkOfEachField(t *testing.T) {
	right, wrong := 0, 0
	for _, c := range append(rightCmds(), impl.Cmd{}, impl.Cmd{Kind: 8, N: 1}, impl.Cmd{Kind: -1}) {
		for field := range cmdFields(&c) {
			for _, n := range placeEdges {
				x := c
				*cmdFields(&x)[field] = n
				if got := impl.CmdOk(x); got != cmdRight(x) {
					t.Errorf("CmdOk(%+v) is %v", x, got)
				}
				if got := impl.CmdText(x); got != cmdTextOf(x) {
					t.Errorf("CmdText(%+v) is %q", x, got)
				}
				if cmdRight(x) {
					right++
				} else {
					wrong++
				}
			}
		}
	}
	if right < 200 || wrong < 2000 {
		t.Errorf("%d are right, %d wrong: too few to tell", right, wrong)
	}
}

func TestCmdText(t *testing.T) {
	most := impl.Job{Id: 999, Prio: 999, Nodes: 24, Need: vec(1000000, 1000000, 1000000), Lic: vec(1000000, 1000000, 1000000), Wall: 1000000, Level: 24}
	for want, c := range map[string]impl.Cmd{
		"submit 7 6 5 4/3/2 9/8/7 11 12": rightCmds()[0],
		"submit 1 0 1 0/0/0 0/0/0 1 0":   submit(impl.Job{Id: 1, Nodes: 1, Wall: 1}),
		"submit 999 999 24 1000000/1000000/1000000 1000000/1000000/1000000 1000000 24": submit(most),
		"cancel 5": {Kind: 2, N: 5}, "cancel 999": {Kind: 2, N: 999}, "done 5": {Kind: 3, N: 5}, "done 1": {Kind: 3, N: 1},
		"fail 5": {Kind: 4, N: 5}, "fail 0": {Kind: 4}, "resume 5": {Kind: 5, N: 5}, "resume 23": {Kind: 5, N: 23},
		"lic 1/2/3": {Kind: 6, Lic: vec(1, 2, 3)}, "lic 0/0/0": {Kind: 6}, "lic 1000000/0/10": {Kind: 6, Lic: vec(1000000, 0, 10)},
		"go 5": {Kind: 7, N: 5}, "go 0": {Kind: 7}, "go 1000000000": {Kind: 7, N: 1000000000},
	} {
		if got := impl.CmdText(c); got != want || cmdTextOf(c) != want {
			t.Errorf("CmdText(%+v) is %q, not %q", c, got, want)
		}
		if got, ok := impl.TextCmd(want); !ok || got != c {
			t.Errorf("TextCmd(%q) is %+v, %v", want, got, ok)
		}
		// Whatever the command, its text goes into a record.
		if !impl.RecordOk(want) {
			t.Errorf("RecordOk(%q) is false", want)
		}
	}
	for _, c := range wrongCmds() {
		if got := impl.CmdText(c); got != "" {
			t.Errorf("CmdText(%+v) is %q", c, got)
		}
	}
}

// drawnRightCmd has fields from one end to the other.
func drawnRightCmd(draw *rand.Rand, kind int) impl.Cmd {
	upTo := func(most int) int {
		few := min(most, []int{1, 9, 10, 99, 100, 1000, most, most}[draw.Intn(8)])
		if draw.Intn(8) == 0 {
			return few
		}
		return draw.Intn(few + 1)
	}
	amounts := func() impl.Vec { return vec(upTo(1000000), upTo(1000000), upTo(1000000)) }
	switch kind {
	case impl.CmdSubmit:
		return submit(impl.Job{Id: 1 + upTo(998), Prio: upTo(999), Nodes: 1 + upTo(23), Need: amounts(), Lic: amounts(), Wall: 1 + upTo(999999), Level: upTo(24)})
	case impl.CmdLic:
		return impl.Cmd{Kind: kind, Lic: amounts()}
	case impl.CmdCancel, impl.CmdDone:
		return impl.Cmd{Kind: kind, N: 1 + upTo(998)}
	case impl.CmdFail, impl.CmdResume:
		return impl.Cmd{Kind: kind, N: upTo(23)}
	}
	return goTo(upTo(impl.MaxTime))
}

func TestCmdIsReadAsWritten(t *testing.T) {
	draw := rand.New(rand.NewSource(91))
	for kind := impl.CmdSubmit; kind <= impl.CmdGo; kind++ {
		for range 3000 {
			c := drawnRightCmd(draw, kind)
			text := impl.CmdText(c)
			if got, ok := impl.TextCmd(text); !ok || got != c || text != cmdTextOf(c) || text == "" {
				t.Errorf("of %+v the text is %q, read as %+v, %v", c, text, got, ok)
			}
		}
	}
	for id := 1; id <= 999; id++ {
		for _, c := range []impl.Cmd{{Kind: 2, N: id}, {Kind: 3, N: id}, {Kind: 4, N: id % 24}, {Kind: 5, N: id % 24}} {
			if got, ok := impl.TextCmd(impl.CmdText(c)); !ok || got != c {
				t.Errorf("%+v is read as %+v, %v", c, got, ok)
			}
		}
	}
}

func cmdIsReadByForm(t *testing.T, s string) bool {
	t.Helper()
	want, right := formCmd(s)
	if got, ok := impl.TextCmd(s); ok != right || got != want {
		t.Errorf("TextCmd(%.100q) is %+v, %v", s, got, ok)
	}
	return right
}

func TestEveryShortCmdTextIsReadByItsForm(t *testing.T) {
	words := []string{"submit", "cancel", "done", "fail", "resume", "lic", "go", " ", "0", "1", "24", "1000", "1/0/2", "\n"}
	everyRow(words, 4, func(s string) { cmdIsReadByForm(t, s) })
	everyRow([]string{"1 ", "0 ", "25 ", "1/2/3 ", "1", "1/2/3"}, 7, func(s string) { cmdIsReadByForm(t, "submit "+s) })
	everyRow([]string{"submit ", "7 ", " ", "007 ", "1000001/0/0 ", "1/2/3 ", "7"}, 5, func(s string) {
		cmdIsReadByForm(t, s)
		cmdIsReadByForm(t, "submit 1 2 "+s)
		cmdIsReadByForm(t, s+" 1/2/3 1/2/3 7 7")
	})
	everyText("go 01", 7, func(s string) { cmdIsReadByForm(t, s) })
}

func TestChangedCmdTextIsReadByItsForm(t *testing.T) {
	draw := rand.New(rand.NewSource(92))
	right := 0
	for kind := impl.CmdSubmit; kind <= impl.CmdGo; kind++ {
		for range 12 {
			s := cmdTextOf(drawnRightCmd(draw, kind))
			for i := range len(s) + 1 {
				for _, b := range []string{" ", "\n", "\r", "\t", "\x00", "0", "1", "9", "00", "-", "+", "/", "g", "G", "\xff", " 0", " 1/1/1"} {
					for _, near := range []string{s[:i] + b + s[i:], s[:i] + b + s[min(i+1, len(s)):]} {
						if cmdIsReadByForm(t, near) {
							right++
						}
					}
				}
				cmdIsReadByForm(t, s[:i])
				cmdIsReadByForm(t, s[i:])
				cmdIsReadByForm(t, s[:i]+s[min(i+1, len(s)):])
			}
		}
	}
	if right < 1000 {
		t.Errorf("%d are right: too few to tell", right)
	}
}

func TestTextOfNoCmd(t *testing.T) {
	for name, s := range map[string]string{
		"the empty text": "", "a blank": " ", "a byte 10": "\n", "an unknown word": "stop", "an unknown word with a number": "stop 5", "a number": "5", "a number as a word": "7 5",
		"a word in capitals": "GO 5", "half a word": "g 5", "a word and more": "gone 5", "another word of the language": "start", "a word of the whole": "do go 5",
		"a blank in front": " go 5", "a blank behind": "go 5 ", "two blanks": "go  5", "a tab": "go\t5", "a byte 10 behind": "go 5\n", "a byte 0 behind": "go 5\x00",
		"a word less": "go", "a word less and a blank": "go ", "no word": " 5", "a word more": "go 5 5", "two commands": "go 5 go 6", "no blank": "go5",
		"'0' in front": "go 05", "two times '0'": "go 00", "a sign": "go +5", "below 0": "go -1", "-0": "go -0", "a point": "go 5.0", "other digits": "go ٥", "hexadecimal": "go 0x5", "a number with '_'": "go 1_0",
		"a number that is too great": "go 1000000001", "a far greater number": "go 99999999999999999999999", "a number that wraps round": "go 18446744073709551621",
		"cancel 0": "cancel 0", "cancel 1000": "cancel 1000", "done 0": "done 0", "done 1000": "done 1000", "done with a vector": "done 1/1/1", "cancel of nothing": "cancel",
		"fail 24": "fail 24", "resume 24": "resume 24", "fail -1": "fail -1", "resume without a number": "resume",
		"lic of a number": "lic 5", "lic of two": "lic 1/2", "lic of four": "lic 1/2/3/4", "lic of none": "lic", "lic of too much": "lic 1000001/0/0", "lic with blanks": "lic 1 2 3",
		"lic with '0' in front": "lic 01/2/3", "lic with a gap": "lic 1//3", "lic below 0": "lic -1/0/0", "lic with a word more": "lic 1/2/3 4",
		"submit alone": "submit", "submit with a word less": "submit 1 2 2 3/0/0 0/0/0 10", "submit with a word more": "submit 1 2 2 3/0/0 0/0/0 10 0 0", "submit like cancel": "submit 5",
		"submit with a blank more": "submit 1 2 2 3/0/0  0/0/0 10 0", "submit with a blank behind": "submit 1 2 2 3/0/0 0/0/0 10 0 ", "submit of the Id 0": "submit 0 2 2 3/0/0 0/0/0 10 0", "submit of the Id 1000": "submit 1000 2 2 3/0/0 0/0/0 10 0",
		"submit of the Prio 1000": "submit 1 1000 2 3/0/0 0/0/0 10 0", "submit of no nodes": "submit 1 2 0 3/0/0 0/0/0 10 0", "submit of 25 nodes": "submit 1 2 25 3/0/0 0/0/0 10 0",
		"submit of no time": "submit 1 2 2 3/0/0 0/0/0 0 0", "submit of too long a time": "submit 1 2 2 3/0/0 0/0/0 1000001 0", "submit of the level 25": "submit 1 2 2 3/0/0 0/0/0 10 25",
		"submit of too much need": "submit 1 2 2 1000001/0/0 0/0/0 10 0", "submit of too many licences": "submit 1 2 2 3/0/0 0/0/1000001 10 0", "submit with '0' in front": "submit 1 2 2 3/0/0 0/0/0 010 0",
		"submit with a number for a vector": "submit 1 2 2 3 0/0/0 10 0", "submit with a vector for a number": "submit 1 2 2 3/0/0 0/0/0 1/0/0 0", "submit with words apart": "submit 1 2 2 3/0/0 0/0/0 10 x",
		"a very long text": strings.Repeat("go 5 ", 100000), "very many blanks": strings.Repeat(" ", 100000), "a very long number": "go " + strings.Repeat("1", 100000), "very many '0'": "go " + strings.Repeat("0", 100000),
	} {
		if got, ok := impl.TextCmd(s); ok || got != (impl.Cmd{}) {
			t.Errorf("%s: TextCmd is %+v, %v", name, got, ok)
		}
		if _, right := formCmd(s); right {
			t.Errorf("%s: it is a command by its form", name)
		}
	}
}

func TestApplyOfDrawnStates(t *testing.T) {
	draw := rand.New(rand.NewSource(93))
	codes, kinds := map[int]int{}, map[int]int{}
	for _, s := range drawnStates(94) {
		for range 25 {
			x := drawnCmd(draw, s)
			want, wanted := applyOf(s, x)
			got, code := impl.Apply(s, x)
			if code != wanted || !sameState(got, want) || code == 0 && !impl.StateOk(got) {
				t.Errorf("Apply(%+v, %+v) is %s, not %s", s, x, codeText(got, code), codeText(want, wanted))
			}
			if codes[code]++; code == 0 {
				kinds[x.Kind]++
			}
		}
	}
	for code, least := range map[int]int{0: 1500, 1: 50, 2: 30, 4: 100, 5: 50, 6: 20, 7: 40, 8: 60, 9: 20, 10: 50} {
		if codes[code] < least {
			t.Errorf("the code %d comes %d times: too few to tell", code, codes[code])
		}
	}
	for kind := impl.CmdSubmit; kind <= impl.CmdGo; kind++ {
		if kinds[kind] < 50 {
			t.Errorf("%d of the kind %d are applied: too few to tell", kinds[kind], kind)
		}
	}
}

// applyText is what Apply tells of the state.
func applyText(s impl.State, c impl.Cmd) string { return codeText(impl.Apply(s, c)) }

func TestApplyByHand(t *testing.T) {
	one := func(id, wall int) impl.Job { return planJob(id, 0, 1, wall, 0) }
	run := func() impl.State { return stateAt(5, runOf(one(1, 10), 0, 0), runOf(one(2, 20), 3, 2)) }
	queued := run()
	queued.Queue = []impl.Job{planJob(3, 0, 3, 5, 1)}
	down := run()
	down.Up[1] = false
	ends := run()
	ends.Ends = manyEnds(300)
	ends.Queue = []impl.Job{planJob(3, 0, 3, 5, 1)}
	end := impl.MaxTime
	for name, c := range map[string]struct {
		s    impl.State
		c    impl.Cmd
		want string
	}{
		"submit that starts":                 {run(), submit(one(7, 5)), "5: | 1@0[0] 2@3[2] 7@5[1] | |"},
		"submit that waits":                  {run(), submit(planJob(7, 0, 2, 5, 0)), "5: 7 | 1@0[0] 2@3[2] | |"},
		"submit of one that runs":            {run(), submit(one(2, 5)), "code 2"},
		"submit of one that waits":           {queued, submit(one(3, 5)), "code 2"},
		"submit to 60":                       {fullState(60), submit(one(700, 5)), "code 3"},
		"submit that can never start":        {run(), submit(planJob(7, 0, 3, 5, 0)), "code 4"},
		"submit of no job":                   {run(), impl.Cmd{Kind: 1}, "code 1"},
		"cancel of one that runs":            {run(), impl.Cmd{Kind: 2, N: 1}, "5: | 2@3[2] | 1@5/3 |"},
		"cancel of one that waits":           {queued, impl.Cmd{Kind: 2, N: 3}, "5: | 1@0[0] 2@3[2] | 3@5/3 |"},
		"cancel of none":                     {run(), impl.Cmd{Kind: 2, N: 7}, "code 5"},
		"cancel of 0":                        {run(), impl.Cmd{Kind: 2}, "code 1"},
		"cancel with 300 ends":               {ends, impl.Cmd{Kind: 2, N: 3}, "code 6"},
		"done of one that runs":              {run(), impl.Cmd{Kind: 3, N: 2}, "5: | 1@0[0] | 2@5/2 |"},
		"done of one that waits":             {queued, impl.Cmd{Kind: 3, N: 3}, "code 5"},
		"done of none":                       {run(), impl.Cmd{Kind: 3, N: 7}, "code 5"},
		"done with 300 ends":                 {ends, impl.Cmd{Kind: 3, N: 1}, "code 6"},
		"done of 1000":                       {run(), impl.Cmd{Kind: 3, N: 1000}, "code 1"},
		"fail of one where one runs":         {run(), impl.Cmd{Kind: 4, N: 2}, "5: | 1@0[0] 2@5[1] | 2@5/4 | 2"},
		"fail of one where none runs":        {run(), impl.Cmd{Kind: 4, N: 1}, "5: | 1@0[0] 2@3[2] | | 1"},
		"fail of one that isn't up":          {down, impl.Cmd{Kind: 4, N: 1}, "code 7"},
		"fail of one that isn't there":       {run(), impl.Cmd{Kind: 4, N: 3}, "code 7"},
		"fail of the last that may be there": {run(), impl.Cmd{Kind: 4, N: 23}, "code 7"},
		"fail of one that can't be there":    {run(), impl.Cmd{Kind: 4, N: 24}, "code 1"},
		"fail with 300 ends":                 {ends, impl.Cmd{Kind: 4, N: 0}, "code 6"},
		"resume of one that isn't up":        {down, impl.Cmd{Kind: 5, N: 1}, "5: | 1@0[0] 2@3[2] | |"},
		"resume of one that is up":           {run(), impl.Cmd{Kind: 5, N: 1}, "code 8"},
		"resume of one that isn't there":     {down, impl.Cmd{Kind: 5, N: 23}, "code 8"},
		"resume of one that can't be there":  {down, impl.Cmd{Kind: 5, N: 24}, "code 1"},
		"lic of less":                        {run(), impl.Cmd{Kind: 6}, "5: | 1@0[0] 2@3[2] | |"},
		"lic of too little":                  {busy(), impl.Cmd{Kind: 6, Lic: vec(2, 4, 4)}, "code 9"},
		"lic of too much":                    {run(), impl.Cmd{Kind: 6, Lic: vec(0, 1000001, 0)}, "code 1"},
		"go to now":                          {run(), goTo(5), "5: | 1@0[0] 2@3[2] | |"},
		"go to the end of one":               {run(), goTo(10), "10: | 2@3[2] | 1@10/1 |"},
		"go to the end of all":               {run(), goTo(end), fmt.Sprint(end, ": | | 1@10/1 2@23/1 |")},
		"go back":                            {run(), goTo(4), "code 10"},
		"go to 0":                            {run(), goTo(0), "code 10"},
		"go beyond the end":                  {run(), goTo(end + 1), "code 1"},
		"go beyond 300 ends":                 {ends, goTo(10), "code 10"},
		"go to below 0":                      {run(), goTo(-1), "code 1"},
		"go in no state":                     {impl.State{}, goTo(0), "code 1"},
		"no command":                         {run(), impl.Cmd{}, "code 1"},
		"no command in no state":             {impl.State{}, impl.Cmd{}, "code 1"},
		"go with a job":                      {run(), impl.Cmd{Kind: 7, N: 9, Job: one(7, 5)}, "code 1"},
	} {
		if got := applyText(c.s, c.c); got != c.want {
			t.Errorf("%s: Apply is %s, not %s", name, got, c.want)
		}
	}
	if more, code := impl.Apply(run(), impl.Cmd{Kind: 6, Lic: vec(9, 8, 7)}); code != 0 || more.Lic != vec(9, 8, 7) {
		t.Errorf("behind lic 9/8/7 there are the licences %v, code %d", more.Lic, code)
	}
}

func TestApplyOfWrongArguments(t *testing.T) {
	right := rightCmds()
	right[0] = submit(planJob(50, 0, 1, 5, 1))
	for name, s := range wrongStates() {
		for _, x := range append(right, goTo(s.Now), goTo(0), goTo(impl.MaxTime), impl.Cmd{}) {
			if got := applyText(s, x); got != "code 1" {
				t.Errorf("%s: Apply of %+v is %s", name, x, got)
			}
		}
	}
	for _, x := range wrongCmds() {
		for _, s := range []impl.State{busy(), stateAt(0), fullState(60)} {
			if got := applyText(s, x); got != "code 1" {
				t.Errorf("Apply of %+v is %s", x, got)
			}
		}
	}
}

// someFirsts has first states, and states that are none: something is in them, or they aren't right.
func someFirsts() map[string]impl.State {
	l := map[string]impl.State{"all up": stateAt(0), "late": stateAt(70), "at the end": stateAt(impl.MaxTime)}
	put := func(name string, change func(*impl.State)) {
		s := stateAt(3)
		change(&s)
		l[name] = s
	}
	put("one down", func(s *impl.State) { s.Up[1] = false })
	put("all down", func(s *impl.State) { s.Up = make([]bool, 3) })
	put("no nodes", func(s *impl.State) { s.Topo.Nodes, s.Up = nil, nil })
	put("no licences, depth 0", func(s *impl.State) { s.Lic, s.Depth = impl.Vec{}, 0 })
	put("depth 60", func(s *impl.State) { s.Depth = 60 })
	put("empty lists", func(s *impl.State) { s.Queue, s.Runs, s.Ends = []impl.Job{}, []impl.Run{}, []impl.End{} })
	put("something in Queue alone", func(s *impl.State) { s.Queue = []impl.Job{planJob(1, 0, 3, 5, 1)} })
	put("something in Runs alone", func(s *impl.State) { s.Runs = []impl.Run{runOf(planJob(1, 0, 1, 5, 1), 3, 0)} })
	put("something in Ends alone", func(s *impl.State) { s.Ends = []impl.End{{Id: 1, At: 0, Why: 1}} })
	put("something in all", func(s *impl.State) { *s = busy() })
	put("depth 61", func(s *impl.State) { s.Depth = 61 })
	put("beyond the end", func(s *impl.State) { s.Now = impl.MaxTime + 1 })
	for name, s := range wrongStates() {
		l["not right: "+name] = s
	}
	return l
}

func TestCtlNew(t *testing.T) {
	right := 0
	for name, s := range someFirsts() {
		want, ok := impl.Ctl{}, firstRight(s)
		if ok {
			right++
			want = impl.Ctl{First: s, State: s}
		}
		if got, is := impl.CtlNew(s); is != ok || !sameCtl(got, want) || ok && !impl.CtlOk(got) {
			t.Errorf("%s: CtlNew is %s, %v", name, ctlText(got), is)
		}
	}
	if right != 9 {
		t.Errorf("%d first states are right", right)
	}
	draw := rand.New(rand.NewSource(95))
	for _, topo := range smallTopos() {
		s := drawnFirst(draw, topo)
		if got, ok := impl.CtlNew(s); !ok || !sameCtl(got, impl.Ctl{First: s, State: s}) || !impl.CtlOk(got) {
			t.Errorf("CtlNew(%+v) is %s, %v", s, ctlText(got), ok)
		}
	}
}

// smallCtl has two commands in its journal: one job runs, one waits.
func smallCtl(t *testing.T) impl.Ctl {
	t.Helper()
	return ctlFrom(t, stateAt(0), submit(planJob(1, 2, 2, 10, 0)), submit(planJob(2, 0, 2, 10, 0)))
}

// wrongCtls has controllers that aren't right, each for one cause.
func wrongCtls(t *testing.T) map[string]impl.Ctl {
	t.Helper()
	l := map[string]impl.Ctl{"nothing": {}}
	put := func(name string, change func(*impl.Ctl)) {
		c := ctlCopy(smallCtl(t))
		change(&c)
		l[name] = c
	}
	texts := func(name string, l ...string) { put(name, func(c *impl.Ctl) { c.Journal = journalOf(0, l...) }) }
	one, two := "submit 1 2 2 3/0/0 0/0/0 10 0", "submit 2 0 2 3/0/0 0/0/0 10 0"
	put("no First", func(c *impl.Ctl) { c.First = impl.State{} })
	put("no State", func(c *impl.Ctl) { c.State = impl.State{} })
	put("no Journal", func(c *impl.Ctl) { c.Journal = impl.Journal{} })
	put("the State as First", func(c *impl.Ctl) { c.First = c.State })
	put("the First as State", func(c *impl.Ctl) { c.State = c.First })
	put("another First", func(c *impl.Ctl) { c.First.Lic.A++ })
	put("a later First", func(c *impl.Ctl) { c.First.Now++ })
	put("a First with another Depth", func(c *impl.Ctl) { c.First.Depth++ })
	put("a First with a node down", func(c *impl.Ctl) { c.First.Up[2] = false })
	put("a First with an end", func(c *impl.Ctl) { c.First.Ends = []impl.End{{Id: 1, At: 0, Why: 1}} })
	put("a First with one that waits", func(c *impl.Ctl) { c.First.Queue = []impl.Job{planJob(9, 0, 3, 5, 1)} })
	put("a First with one that runs", func(c *impl.Ctl) { c.First.Runs = []impl.Run{runOf(planJob(9, 0, 1, 5, 1), 0, 2)} })
	put("a State later by one", func(c *impl.Ctl) { c.State.Now++ })
	put("a State with other licences", func(c *impl.Ctl) { c.State.Lic.C-- })
	put("a State with an end", func(c *impl.Ctl) { c.State.Ends = []impl.End{{Id: 1, At: 0, Why: 1}} })
	put("a State with nothing that waits", func(c *impl.Ctl) { c.State.Queue = nil })
	put("a State with nothing that runs", func(c *impl.Ctl) { c.State.Runs = nil })
	put("a State with one on other nodes", func(c *impl.Ctl) { c.State.Runs[0].Nodes = []int{1, 2} })
	put("a State with another tree", func(c *impl.Ctl) { c.State.Topo.Nodes[2].Cap.B-- })
	put("a First and a State with a wrong tree", func(c *impl.Ctl) { c.First.Topo.Parents[0], c.State.Topo.Parents[0] = 1, 1 })
	put("a State that isn't right", func(c *impl.Ctl) { c.State.Depth = 61 })
	put("Synced below 0", func(c *impl.Ctl) { c.Journal.Synced = -1 })
	put("Synced above all", func(c *impl.Ctl) { c.Journal.Synced++ })
	put("Count one more", func(c *impl.Ctl) { c.Journal.Count++ })
	put("Count one less", func(c *impl.Ctl) { c.Journal.Count-- })
	put("a byte more", func(c *impl.Ctl) { c.Journal.Bytes = append(c.Journal.Bytes, '2') })
	put("a byte less", func(c *impl.Ctl) {
		c.Journal.Bytes = c.Journal.Bytes[:len(c.Journal.Bytes)-1]
		c.Journal.Synced = 0
	})
	texts("a text that is no command", one, two, "stop")
	texts("a first text that is no command", "stop", one, two)
	texts("a command with a blank behind", one, two+" ")
	texts("a command with '0' in front", one, "submit 02 0 2 3/0/0 0/0/0 10 0")
	texts("one command only", one)
	texts("the commands the other way round", two, one)
	texts("one that has a code at the end", one, two, two)
	texts("one that has a code between", one, "done 7", two)
	texts("one that has a code at first", "resume 0", one, two)
	texts("one that makes another state", one, two, "lic 4/4/3")
	texts("one of the commands another", one, "submit 2 0 2 3/0/0 0/0/0 11 0")
	texts("too many bytes", slices.Concat([]string{one, two}, slices.Repeat([]string{"go 0"}, 4200))...)
	return l
}

func TestCtlOk(t *testing.T) {
	for name, c := range wrongCtls(t) {
		if ctlRight(c) || impl.CtlOk(c) {
			t.Errorf("%s: CtlOk is true", name)
		}
	}
	put := func(name string, c impl.Ctl) {
		if !ctlRight(c) || !impl.CtlOk(c) {
			t.Errorf("%s: CtlOk is false", name)
		}
	}
	c := smallCtl(t)
	put("two commands", c)
	for synced := range len(c.Journal.Bytes) + 1 {
		d := ctlCopy(c)
		d.Journal.Synced = synced
		put(fmt.Sprint(synced, " bytes synced"), d)
	}
	// A command that changes nothing may stand between.
	d := ctlCopy(c)
	d.Journal = journalOf(0, "submit 1 2 2 3/0/0 0/0/0 10 0", "lic 4/4/4", "go 0", "submit 2 0 2 3/0/0 0/0/0 10 0", "go 0")
	put("other commands that make the same", d)
	empty := ctlCopy(c)
	empty.First.Queue, empty.First.Runs, empty.First.Ends, empty.State.Ends = []impl.Job{}, []impl.Run{}, []impl.End{}, []impl.End{}
	put("empty lists", empty)
	for _, c := range drawnCtls(t, 96, 15) {
		put(ctlText(c), c)
	}
}

// changedCtl has one thing changed, and may be right or not.
func changedCtl(t *testing.T, draw *rand.Rand, c impl.Ctl) impl.Ctl {
	t.Helper()
	d := ctlCopy(c)
	switch draw.Intn(6) {
	case 0:
		d.First = changedState(draw, c.First)
	case 1:
		d.State = changedState(draw, c.State)
	case 2:
		d.Journal.Bytes = changedBytes(draw, c.Journal.Bytes)
		d.Journal = openOf(d.Journal.Bytes)
	case 3:
		d.Journal.Synced = draw.Intn(len(c.Journal.Bytes)+3) - 1
	case 4:
		// Two records change places, or one is left out or there twice.
		texts, _ := recordsOf(c.Journal.Bytes)
		if n := len(texts); n > 0 {
			i, k := draw.Intn(n), draw.Intn(n)
			texts[i], texts[k] = texts[k], texts[i]
			if draw.Intn(3) == 0 {
				texts = slices.Delete(texts, i, i+1)
			} else if draw.Intn(3) == 0 {
				texts = slices.Insert(texts, i, texts[k])
			}
		}
		d.Journal = journalOf(0, texts...)
	case 5:
		d.First.Depth, d.State.Depth = d.First.Depth+draw.Intn(2), d.State.Depth+draw.Intn(2)
	}
	return d
}

func TestCtlOkOfChangedCtls(t *testing.T) {
	draw := rand.New(rand.NewSource(97))
	right, wrong := 0, 0
	for _, c := range drawnCtls(t, 98, 12) {
		for range 25 {
			d := changedCtl(t, draw, c)
			is := ctlRight(d)
			if impl.CtlOk(d) != is {
				t.Errorf("CtlOk(%s) is %v", ctlText(d), !is)
			}
			if is {
				right++
			} else {
				wrong++
			}
		}
	}
	if right < 300 || wrong < 300 {
		t.Errorf("%d are right, %d wrong: too few to tell", right, wrong)
	}
}

func TestSameState(t *testing.T) {
	right := append(drawnStates(99), busy(), stateAt(0), fullState(60))
	for _, s := range right {
		q := stateCopy(s)
		if !impl.SameState(s, q) || !impl.SameState(s, s) {
			t.Errorf("SameState(%+v) and its copy is false", s)
		}
		if impl.SameState(s, impl.State{}) || impl.SameState(impl.State{}, s) {
			t.Errorf("SameState(%+v) and nothing is true", s)
		}
	}
	for name, s := range wrongStates() {
		if impl.SameState(s, stateCopy(s)) || impl.SameState(s, s) {
			t.Errorf("%s: SameState is true of a state that isn't right", name)
		}
	}
	none, empty := stateAt(5), stateAt(5)
	empty.Queue, empty.Runs, empty.Ends = []impl.Job{}, []impl.Run{}, make([]impl.End, 0, 9)
	if !impl.SameState(none, empty) || !impl.SameState(empty, none) {
		t.Error("SameState of nil and empty lists is false")
	}
}

// otherBusy has a name for each way in which a right state can differ from the busy one.
func otherBusy() map[string]impl.State {
	l := map[string]impl.State{}
	put := func(name string, change func(*impl.State)) {
		s := busy()
		change(&s)
		l[name] = s
	}
	put("Parents", func(s *impl.State) { s.Topo.Parents = append(s.Topo.Parents, 0) })
	put("a leaf", func(s *impl.State) { s.Topo.Nodes[0].Leaf = 2 })
	put("a Cap", func(s *impl.State) { s.Topo.Nodes[1].Cap.C++ })
	put("a node more", func(s *impl.State) {
		s.Topo.Nodes, s.Up = append(s.Topo.Nodes, impl.Node{Leaf: 2}), append(s.Up, true)
	})
	put("a node more that isn't up", func(s *impl.State) {
		s.Topo.Nodes, s.Up = append(s.Topo.Nodes, impl.Node{Leaf: 2}), append(s.Up, false)
	})
	put("Lic", func(s *impl.State) { s.Lic.B-- })
	put("Depth", func(s *impl.State) { s.Depth++ })
	put("Now", func(s *impl.State) { s.Now++ })
	put("one that waits less", func(s *impl.State) { s.Queue = s.Queue[:1] })
	put("the queue the other way round", func(s *impl.State) { slices.Reverse(s.Queue) })
	for i := range jobFields(&impl.Job{}) {
		put(fmt.Sprint("the field ", i, " of one that waits"), func(s *impl.State) { *jobFields(&s.Queue[1])[i] += 4 })
		put(fmt.Sprint("the field ", i, " of one that runs"), func(s *impl.State) {
			// All but Nodes can be one more and fit.
			if f := jobFields(&s.Runs[0].Job)[i]; i != 2 {
				*f++
			} else {
				s.Runs[0].Job.Nodes, s.Runs[0].Job.Need, s.Runs[0].Nodes, s.Runs[0].Job.Level = 2, impl.Vec{}, []int{0, 1}, 1
			}
			// The Id 2 is there already.
			if i == 0 {
				s.Runs[0].Job.Id = 9
			}
		})
	}
	put("one that runs less", func(s *impl.State) { s.Runs = s.Runs[:1] })
	put("the runs the other way round", func(s *impl.State) { slices.Reverse(s.Runs) })
	put("a run's At", func(s *impl.State) { s.Runs[1].At-- })
	put("a run's nodes", func(s *impl.State) { s.Runs[1].Nodes, s.Runs[0].Nodes = []int{0, 1}, []int{2} })
	put("an end less", func(s *impl.State) { s.Ends = s.Ends[:1] })
	put("an end's Id", func(s *impl.State) { s.Ends[1].Id++ })
	put("an end's At", func(s *impl.State) { s.Ends[1].At-- })
	put("an end's Why", func(s *impl.State) { s.Ends[1].Why-- })
	put("the ends the other way round", func(s *impl.State) { slices.Reverse(s.Ends) })
	return l
}

func TestSameStateOfStatesThatDiffer(t *testing.T) {
	for name, s := range otherBusy() {
		if !impl.StateOk(s) {
			t.Errorf("%s: the other state isn't right", name)
		}
		if impl.SameState(s, busy()) || impl.SameState(busy(), s) {
			t.Errorf("%s: SameState is true", name)
		}
	}
	draw := rand.New(rand.NewSource(100))
	same, not := 0, 0
	for _, s := range drawnStates(101) {
		for range 20 {
			a, b := changedState(draw, s), changedState(draw, s)
			want := stateRight(a) && stateRight(b) && sameState(a, b)
			if impl.SameState(a, b) != want || impl.SameState(b, a) != want {
				t.Errorf("SameState(%+v, %+v) is %v", a, b, !want)
			}
			if want {
				same++
			} else {
				not++
			}
		}
	}
	if same < 200 || not < 500 {
		t.Errorf("%d are the same, %d not: too few to tell", same, not)
	}
}

// takingIsRight holds Take and Torn against the document's words, and tells the code.
func takingIsRight(t *testing.T, c impl.Ctl, x impl.Cmd, keep int) int {
	t.Helper()
	want, wanted := takeOf(c, x)
	got, code := impl.Take(c, x)
	if code != wanted || !sameCtl(got, want) {
		t.Errorf("Take of %+v in %s is %s, %d, not %s, %d", x, ctlText(c), ctlText(got), code, ctlText(want), wanted)
	}
	if code == 0 && (!impl.CtlOk(got) || got.Journal.Synced != len(got.Journal.Bytes)) {
		t.Errorf("Take of %+v in %s is %s: it isn't right, or isn't synced", x, ctlText(c), ctlText(got))
	}
	lies, wanted := tornOf(c, x, keep)
	if b, code := impl.Torn(c, x, keep); code != wanted || !bytes.Equal(b, lies) {
		t.Errorf("Torn of %+v in %s behind %d is %.80q, %d, not %.80q, %d", x, ctlText(c), keep, b, code, lies, wanted)
	}
	return code
}

func TestTakeAndTornOfDrawnCtls(t *testing.T) {
	draw := rand.New(rand.NewSource(102))
	codes := map[int]int{}
	for _, c := range drawnCtls(t, 103, 14) {
		if draw.Intn(3) == 0 {
			c.Journal.Synced = draw.Intn(len(c.Journal.Bytes) + 1)
		}
		for range 12 {
			codes[takingIsRight(t, c, drawnCmd(draw, c.State), draw.Intn(70)-5)]++
		}
		codes[takingIsRight(t, changedCtl(t, draw, c), drawnCmd(draw, c.State), draw.Intn(70)-5)]++
	}
	for code, least := range map[int]int{0: 500, 1: 20, 2: 10, 4: 50, 5: 30, 7: 20, 8: 20, 10: 20, 20: 20} {
		if codes[code] < least {
			t.Errorf("the code %d comes %d times: too few to tell", code, codes[code])
		}
	}
}

func TestTakeByHand(t *testing.T) {
	one, two := planJob(1, 2, 2, 10, 0), planJob(2, 0, 2, 10, 0)
	c, ok := impl.CtlNew(stateAt(0))
	if !ok {
		t.Fatal("CtlNew is false")
	}
	var record []string
	for i, step := range []struct {
		x           impl.Cmd
		text, state string
	}{
		{submit(one), "submit 1 2 2 3/0/0 0/0/0 10 0", "0: | 1@0[0 1] | |"},
		{submit(two), "submit 2 0 2 3/0/0 0/0/0 10 0", "0: 2 | 1@0[0 1] | |"},
		{impl.Cmd{Kind: 6, Lic: vec(1, 0, 0)}, "lic 1/0/0", "0: 2 | 1@0[0 1] | |"},
		{goTo(4), "go 4", "4: 2 | 1@0[0 1] | |"},
		{goTo(4), "go 4", "4: 2 | 1@0[0 1] | |"},
		{impl.Cmd{Kind: 4, N: 1}, "fail 1", "4: 2 1 | | 1@4/4 | 1"},
		{impl.Cmd{Kind: 5, N: 1}, "resume 1", "4: 2 | 1@4[0 1] | 1@4/4 |"},
		{impl.Cmd{Kind: 3, N: 1}, "done 1", "4: | 2@4[0 1] | 1@4/4 1@4/2 |"},
		{goTo(20), "go 20", "20: | | 1@4/4 1@4/2 2@14/1 |"},
		{submit(one), "submit 1 2 2 3/0/0 0/0/0 10 0", "20: | 1@20[0 1] | 1@4/4 1@4/2 2@14/1 |"},
		{impl.Cmd{Kind: 2, N: 1}, "cancel 1", "20: | | 1@4/4 1@4/2 2@14/1 1@20/3 |"},
	} {
		record = append(record, step.text)
		d, code := impl.Take(c, step.x)
		want := journalOf(0, record...)
		want.Synced = len(want.Bytes)
		if code != 0 || stateText(d.State) != step.state || !sameJournal(d.Journal, want) || !sameState(d.First, stateAt(0)) {
			t.Fatalf("Take %d of %q is %s, %d", i, step.text, ctlText(d), code)
		}
		c = d
	}
	if c.State.Lic != vec(1, 0, 0) || c.First.Lic != vec(4, 4, 4) {
		t.Errorf("there are the licences %v, at first %v", c.State.Lic, c.First.Lic)
	}
}

// endedCtl has so many ends: one job is submitted and cancelled again and again.
func endedCtl(t *testing.T, ends int, more ...string) impl.Ctl {
	t.Helper()
	texts := slices.Concat(slices.Repeat([]string{"submit 9 0 1 0/0/0 0/0/0 9 0", "cancel 9"}, ends), more)
	c, code := impl.Found(stateAt(0), rows(0, texts...))
	if code != 0 || len(c.State.Ends) < ends {
		t.Fatalf("Found has the code %d, %d ends", code, len(c.State.Ends))
	}
	return c
}

// fullCtl has so many jobs; each asks for all nodes.
func fullCtl(t *testing.T, jobs int) impl.Ctl {
	t.Helper()
	var texts []string
	for i := range jobs {
		texts = append(texts, fmt.Sprintf("submit %d 0 3 3/0/0 0/0/0 9 1", i+1))
	}
	c, code := impl.Found(stateAt(0), rows(0, texts...))
	if code != 0 || len(c.State.Queue) != max(0, jobs-1) {
		t.Fatalf("Found has the code %d, %d wait", code, len(c.State.Queue))
	}
	return c
}

// padded has a journal of just so many bytes, 15 or more: commands that change the licences only, as long as they can be.
func padded(t *testing.T, size int) impl.Ctl {
	t.Helper()
	first := impl.State{Topo: withNodes([]int{0}, 1), Up: []bool{true}, Lic: vec(4, 4, 4), Depth: 1}
	var texts []string
	for left := size; left > 0; {
		least := len(fmt.Sprintf("%d lic 0/0/0\n", len(texts)))
		record := min(left, least+18)
		// Something must be left for the last one, or nothing.
		if behind := left - record; behind > 0 && behind <= least {
			record -= least + 1
		}
		more := record - least
		texts = append(texts, "lic "+slashed(vec(digitsOf(more), digitsOf(more-6), digitsOf(more-12))))
		left -= record
	}
	c, code := impl.Found(first, rows(0, texts...))
	if code != 0 || len(c.Journal.Bytes) != size {
		t.Fatalf("Found has the code %d, and %d bytes, not %d", code, len(c.Journal.Bytes), size)
	}
	return c
}

// digitsOf is 0, or a number of up to 6 digits more.
func digitsOf(more int) int {
	n := 0
	for range min(more, 6) {
		n = max(n*10, 10)
	}
	return n
}

func TestTheCodesOfTakeAndTorn(t *testing.T) {
	small := smallCtl(t)
	wrong := ctlCopy(small)
	wrong.State.Now++
	down := ctlFrom(t, stateAt(0), impl.Cmd{Kind: 4, N: 2})
	licensed := ctlFrom(t, stateAt(0), submit(withLic(planJob(1, 0, 1, 5, 0), vec(2, 0, 0))))
	late := ctlFrom(t, stateAt(0), goTo(9))
	many := endedCtl(t, 300)
	running := endedCtl(t, 299, "submit 9 0 1 0/0/0 0/0/0 9 0", "submit 8 0 1 0/0/0 0/0/0 9 0")
	full := padded(t, 40000)
	for name, c := range map[string]struct {
		c    impl.Ctl
		x    impl.Cmd
		want int
	}{
		"taken":                                  {small, goTo(5), 0},
		"20, no controller":                      {impl.Ctl{}, goTo(5), 20},
		"20, another state":                      {wrong, goTo(5), 20},
		"20 ahead of 1":                          {wrong, impl.Cmd{}, 20},
		"20 ahead of 2":                          {wrong, submit(planJob(1, 2, 2, 10, 0)), 20},
		"20 ahead of 10":                         {wrong, goTo(0), 20},
		"1, no command":                          {small, impl.Cmd{}, 1},
		"1, a command with something more":       {small, impl.Cmd{Kind: 7, N: 5, Lic: vec(1, 0, 0)}, 1},
		"1, a node that can't be":                {small, impl.Cmd{Kind: 4, N: 24}, 1},
		"2, one that runs":                       {small, submit(planJob(1, 2, 2, 10, 0)), 2},
		"2, one that waits":                      {small, submit(planJob(2, 2, 2, 10, 0)), 2},
		"2 ahead of 3":                           {fullCtl(t, 60), submit(planJob(1, 0, 1, 1, 0)), 2},
		"3, 60 jobs":                             {fullCtl(t, 60), submit(planJob(61, 0, 1, 1, 0)), 3},
		"3 ahead of 4":                           {fullCtl(t, 60), submit(planJob(61, 0, 4, 1, 1)), 3},
		"59 jobs":                                {fullCtl(t, 59), submit(planJob(61, 0, 3, 1, 1)), 0},
		"4, too many nodes":                      {small, submit(planJob(7, 2, 4, 10, 1)), 4},
		"4, too low a level":                     {small, submit(planJob(7, 2, 3, 10, 0)), 4},
		"5, one that isn't there":                {small, impl.Cmd{Kind: 2, N: 7}, 5},
		"5, one that waits isn't done":           {small, impl.Cmd{Kind: 3, N: 2}, 5},
		"5 ahead of 6":                           {many, impl.Cmd{Kind: 2, N: 8}, 5},
		"the last end":                           {running, impl.Cmd{Kind: 2, N: 8}, 0},
		"6, 300 ends":                            {ctlBehind(t, running, impl.Cmd{Kind: 2, N: 8}), impl.Cmd{Kind: 3, N: 9}, 6},
		"6, two that end as a node fails":        {running, impl.Cmd{Kind: 4, N: 2}, 6},
		"7, a node that is down":                 {down, impl.Cmd{Kind: 4, N: 2}, 7},
		"7, a node that isn't there":             {small, impl.Cmd{Kind: 4, N: 3}, 7},
		"8, a node that is up":                   {small, impl.Cmd{Kind: 5, N: 2}, 8},
		"8, a node that isn't there":             {down, impl.Cmd{Kind: 5, N: 23}, 8},
		"9, too few licences":                    {licensed, impl.Cmd{Kind: 6, Lic: vec(1, 4, 4)}, 9},
		"licences enough":                        {licensed, impl.Cmd{Kind: 6, Lic: vec(2, 0, 0)}, 0},
		"10, a time gone by":                     {late, goTo(8), 10},
		"no time goes by":                        {late, goTo(9), 0},
		"10, too many ends":                      {running, goTo(9), 10},
		"one ahead of too many ends":             {running, goTo(8), 0},
		"21, no room in the journal":             {full, impl.Cmd{Kind: 6}, 21},
		"21, no room for the least":              {full, goTo(0), 21},
		"1 ahead of 21":                          {full, impl.Cmd{}, 1},
		"10 ahead of 21":                         {ctlBehind(t, padded(t, 39800), goTo(9), impl.Cmd{Kind: 4}, impl.Cmd{Kind: 5}), goTo(8), 10},
		"7 ahead of 21":                          {full, impl.Cmd{Kind: 4, N: 1}, 7},
		"just room enough":                       {padded(t, 39985), impl.Cmd{Kind: 6}, 0},
		"one byte less than that":                {padded(t, 39986), impl.Cmd{Kind: 6}, 21},
		"one byte less, but a shorter command":   {padded(t, 39986), goTo(0), 0},
		"just room for the longer of two":        {padded(t, 39984), impl.Cmd{Kind: 6, Lic: vec(10, 0, 0)}, 0},
		"room for the shorter of two":            {padded(t, 39985), impl.Cmd{Kind: 6, Lic: vec(10, 0, 0)}, 21},
		"room for the shorter, and just for it":  {padded(t, 39990), goTo(7), 0},
		"room for none, but a byte":              {padded(t, 39991), goTo(7), 21},
		"one of all ends":                        {many, goTo(impl.MaxTime), 0},
		"a first state that isn't right":         {impl.Ctl{First: busy(), State: busy()}, goTo(6), 20},
		"a journal with a text that is no one's": {impl.Ctl{First: stateAt(0), State: stateAt(0), Journal: journalOf(0, "stop")}, goTo(6), 20},
	} {
		kept := ctlCopy(c.c)
		d, code := impl.Take(c.c, c.x)
		if code != c.want || code != 0 && !noCtl(d) || code == 0 && !impl.CtlOk(d) {
			t.Errorf("%s: Take has the code %d, and tells %s", name, code, ctlText(d))
		}
		b, code := impl.Torn(c.c, c.x, 5)
		if code != c.want || code != 0 && len(b) > 0 || code == 0 && len(b) != len(c.c.Journal.Bytes)+5 {
			t.Errorf("%s: Torn has the code %d, and tells %d bytes", name, code, len(b))
		}
		if !sameCtl(c.c, kept) {
			t.Errorf("%s: the controller has become %s", name, ctlText(c.c))
		}
	}
}

func TestTakeAndTornOfWrongCtls(t *testing.T) {
	for name, c := range wrongCtls(t) {
		for _, x := range append(rightCmds(), impl.Cmd{}, goTo(c.State.Now), impl.Cmd{Kind: 8}) {
			if d, code := impl.Take(c, x); code != 20 || !noCtl(d) {
				t.Errorf("%s: Take of %+v is %s, %d", name, x, ctlText(d), code)
			}
			for _, keep := range []int{math.MinInt, -1, 0, 1, 20, math.MaxInt} {
				if b, code := impl.Torn(c, x, keep); code != 20 || len(b) != 0 {
					t.Errorf("%s: Torn of %+v behind %d is %q, %d", name, x, keep, b, code)
				}
			}
		}
	}
	for _, x := range wrongCmds() {
		c := smallCtl(t)
		if d, code := impl.Take(c, x); code != 1 || !noCtl(d) {
			t.Errorf("Take of %+v is %s, %d", x, ctlText(d), code)
		}
		if b, code := impl.Torn(c, x, 5); code != 1 || len(b) != 0 {
			t.Errorf("Torn of %+v is %q, %d", x, b, code)
		}
	}
}

func TestTornByHand(t *testing.T) {
	c := ctlFrom(t, stateAt(0), goTo(3))
	x := impl.Cmd{Kind: 4, N: 1}
	for _, s := range []struct {
		synced, keep int
		want         string
	}{
		{7, -1, "0 go 3\n"}, {7, 0, "0 go 3\n"}, {7, 1, "0 go 3\n1"}, {7, 2, "0 go 3\n1 "}, {7, 8, "0 go 3\n1 fail 1"}, {7, 9, "0 go 3\n1 fail 1\n"}, {7, 10, "0 go 3\n1 fail 1\n"},
		{7, math.MinInt, "0 go 3\n"}, {7, math.MaxInt, "0 go 3\n1 fail 1\n"},
		// Of what wasn't synced ahead of x a crash keeps a part only, too.
		{0, 0, ""}, {0, 3, "0 g"}, {0, 7, "0 go 3\n"}, {0, 9, "0 go 3\n1 "}, {0, 16, "0 go 3\n1 fail 1\n"}, {4, 0, "0 go"}, {4, 3, "0 go 3\n"}, {4, 99, "0 go 3\n1 fail 1\n"},
	} {
		c.Journal.Synced = s.synced
		if b, code := impl.Torn(c, x, s.keep); string(b) != s.want || code != 0 {
			t.Errorf("of %d synced bytes Torn behind %d is %q, %d", s.synced, s.keep, b, code)
		}
	}
	none, _ := impl.CtlNew(stateAt(0))
	if b, code := impl.Torn(none, goTo(3), 6); string(b) != "0 go 3" || code != 0 {
		t.Errorf("of the first command Torn is %q, %d", b, code)
	}
}

// tornIsRight holds what is found behind a crash against the states ahead of x and behind it.
func tornIsRight(t *testing.T, c, behind impl.Ctl, x impl.Cmd, keep int) bool {
	t.Helper()
	record := fmt.Sprintf("%d %s\n", c.Journal.Count, impl.CmdText(x))
	b, code := impl.Torn(c, x, keep)
	if kept := len(c.Journal.Bytes) + min(max(keep, 0), len(record)); code != 0 || string(b) != (string(c.Journal.Bytes) + record)[:kept] {
		t.Fatalf("Torn of %+v in %s behind %d is %.80q, %d", x, ctlText(c), keep, b, code)
	}
	want, whole := c, keep >= len(record)
	if whole {
		want = behind
	}
	f, code := impl.Found(c.First, b)
	if code != 0 || !impl.SameState(f.State, want.State) || !sameCtl(f, want) || !impl.CtlOk(f) {
		t.Errorf("%d of %d bytes of %+v lie behind %s: found is %s, %d", keep, len(record), x, ctlText(c), ctlText(f), code)
	}
	return whole
}

func TestACrashLeavesTheStateAheadOrBehind(t *testing.T) {
	draw := rand.New(rand.NewSource(104))
	ahead, whole := 0, 0
	for _, c := range drawnCtls(t, 105, 16) {
		for range 4 {
			x := drawnCmd(draw, c.State)
			behind, code := impl.Take(c, x)
			if code != 0 {
				continue
			}
			size := len(impl.CmdText(x)) + 6
			keeps := []int{math.MinInt, -100, 100, 40000, math.MaxInt}
			for keep := -2; keep <= size; keep++ {
				keeps = append(keeps, keep)
			}
			for _, keep := range keeps {
				if tornIsRight(t, c, behind, x, keep) {
					whole++
				} else {
					ahead++
				}
			}
		}
	}
	if ahead < 5000 || whole < 1500 {
		t.Errorf("%d times the state ahead is found, %d times the one behind: too few to tell", ahead, whole)
	}
}

func TestWhatWasTakenIsFoundAgain(t *testing.T) {
	for _, c := range drawnCtls(t, 106, 25) {
		f, code := impl.Found(c.First, c.Journal.Bytes)
		if code != 0 || !impl.SameState(f.First, c.First) || !impl.SameState(f.State, c.State) || !bytes.Equal(f.Journal.Bytes, c.Journal.Bytes) || !sameCtl(f, c) || !impl.CtlOk(f) {
			t.Errorf("from the bytes of %s is found %s, %d", ctlText(c), ctlText(f), code)
		}
		for _, keep := range []int{math.MinInt, -1, 0, 1, 7, math.MaxInt} {
			f, code := impl.Found(c.First, impl.JournalCrash(c.Journal, keep))
			if code != 0 || !sameCtl(f, c) {
				t.Errorf("from a crash of %s is found %s, %d", ctlText(c), ctlText(f), code)
			}
		}
	}
}

// Of a journal that isn't synced a crash leaves the state behind the last record that is whole.
func TestACrashLeavesEachStateOfThePlay(t *testing.T) {
	draw := rand.New(rand.NewSource(107))
	for _, topo := range smallTopos() {
		c := ctlFrom(t, drawnFirst(draw, topo))
		states, ends := []impl.State{c.State}, []int{0}
		for range 10 {
			if d, code := impl.Take(c, drawnCmd(draw, c.State)); code == 0 {
				c = d
				states, ends = append(states, d.State), append(ends, len(d.Journal.Bytes))
			}
		}
		c.Journal.Synced = 0
		for keep := -1; keep <= len(c.Journal.Bytes)+1; keep++ {
			whole := 0
			for whole+1 < len(ends) && ends[whole+1] <= keep {
				whole++
			}
			f, code := impl.Found(c.First, impl.JournalCrash(c.Journal, keep))
			if code != 0 || !impl.SameState(f.State, states[whole]) || f.Journal.Count != whole || f.Journal.Synced != ends[whole] {
				t.Errorf("behind %d bytes of %s is found %s, %d", keep, ctlText(c), ctlText(f), code)
			}
		}
	}
}

// Behind a crash the play goes on: what is taken again makes what it would have made.
func TestAPlayGoesOnBehindACrash(t *testing.T) {
	draw := rand.New(rand.NewSource(108))
	again := 0
	for _, topo := range smallTopos() {
		c := ctlFrom(t, drawnFirst(draw, topo))
		d := ctlCopy(c)
		for range 25 {
			x := drawnCmd(draw, c.State)
			next, code := impl.Take(c, x)
			if code != 0 {
				continue
			}
			c = next
			b, code := impl.Torn(d, x, draw.Intn(50))
			found, also := impl.Found(d.First, b)
			if code != 0 || also != 0 {
				t.Fatalf("Torn has the code %d, Found %d", code, also)
			}
			if found.Journal.Count == d.Journal.Count {
				again++
				if found, code = impl.Take(found, x); code != 0 {
					t.Fatalf("%+v was taken in %s, but not behind a crash: %d", x, ctlText(d), code)
				}
			}
			if d = found; !sameCtl(c, d) {
				t.Fatalf("with crashes there is %s, without %s", ctlText(d), ctlText(c))
			}
		}
	}
	if again < 100 {
		t.Errorf("%d were taken again: too few to tell", again)
	}
}

func TestFoundByHand(t *testing.T) {
	run := "submit 1 0 1 3/0/0 0/0/0 10 0"
	long := padded(t, 40000).Journal.Bytes
	first := padded(t, 30).First
	for name, c := range map[string]struct {
		first impl.State
		b     string
		code  int
		want  string
		count int
	}{
		"no bytes":                               {stateAt(3), "", 0, "3: | | |", 0},
		"one":                                    {stateAt(3), "0 go 5\n", 0, "5: | | |", 1},
		"two":                                    {stateAt(3), "0 " + run + "\n1 go 5\n", 0, "5: | 1@3[2] | |", 2},
		"all kinds":                              {stateAt(3), string(rows(0, run, "go 5", "fail 2", "resume 2", "lic 0/0/0", "done 1", run, "cancel 1")), 0, "5: | | 1@5/4 1@5/2 1@5/3 |", 8},
		"torn":                                   {stateAt(3), "0 " + run + "\n1 go 5", 0, "3: | 1@3[2] | |", 1},
		"torn within the first":                  {stateAt(3), "0 submit", 0, "3: | | |", 0},
		"torn, and all of it is no command":      {stateAt(3), "0 go 5\n1 stop", 0, "5: | | |", 1},
		"a number that is not the next":          {stateAt(3), "0 go 5\n2 go 6\n", 0, "5: | | |", 1},
		"no records at all":                      {stateAt(3), "go 5\n", 0, "3: | | |", 0},
		"a text that is no command":              {stateAt(3), "0 stop\n", 2, "", 0},
		"a text that is no command behind":       {stateAt(3), "0 go 5\n1 go 06\n", 2, "", 0},
		"a text that is no command between":      {stateAt(3), "0 go 5\n1 x\n2 go 6\n", 2, "", 0},
		"a blank behind a command":               {stateAt(3), "0 go 5 \n", 2, "", 0},
		"one with the code 10":                   {stateAt(3), "0 go 2\n", 2, "", 0},
		"one with the code 2":                    {stateAt(3), "0 " + run + "\n1 " + run + "\n", 2, "", 0},
		"one with the code 4":                    {stateAt(3), "0 submit 1 0 4 0/0/0 0/0/0 1 1\n", 2, "", 0},
		"one with the code 5":                    {stateAt(3), "0 done 7\n1 go 5\n", 2, "", 0},
		"one with the code 7":                    {stateAt(3), "0 fail 3\n", 2, "", 0},
		"one with the code 8":                    {stateAt(3), "0 resume 0\n", 2, "", 0},
		"one with the code 9":                    {stateAt(3), "0 submit 1 0 1 0/0/0 1/0/0 1 1\n1 lic 0/0/0\n", 2, "", 0},
		"one that would be right a time later":   {stateAt(3), "0 done 1\n1 " + run + "\n", 2, "", 0},
		"40000 bytes":                            {first, string(long), 0, "0: | | |", strings.Count(string(long), "\n")},
		"40000 bytes, the last torn":             {first, string(long[:39999]) + "x", 0, "0: | | |", strings.Count(string(long), "\n") - 1},
		"40001 bytes":                            {first, string(long) + "x", 1, "", 0},
		"40001 bytes, and few records":           {first, "0 go 5\n" + strings.Repeat("x", 39994), 1, "", 0},
		"40000 bytes, and few records":           {first, "0 go 5\n" + strings.Repeat("x", 39993), 0, "5: | | |", 1},
		"40001 bytes, 1 ahead of 2":              {first, "0 stop\n" + strings.Repeat("x", 39994), 1, "", 0},
		"no first state":                         {impl.State{}, "", 1, "", 0},
		"a first state that isn't right":         {impl.State{}, "0 go 5\n", 1, "", 0},
		"a first state with one that runs":       {stateAt(3, runOf(planJob(1, 0, 1, 5, 0), 3, 0)), "", 1, "", 0},
		"1 ahead of 2 for a wrong first state":   {busy(), "0 stop\n", 1, "", 0},
		"many bytes, 1 for a wrong first state":  {impl.State{}, strings.Repeat("x", 50000), 1, "", 0},
		"a late first state":                     {stateAt(impl.MaxTime), "0 go 1000000000\n", 0, "1000000000: | | |", 1},
		"a first state of nothing but one place": {impl.State{Topo: impl.Topo{Parents: []int{0}}}, "0 go 5\n", 0, "5: | | |", 1},
	} {
		f, code := impl.Found(c.first, []byte(c.b))
		if code != c.code {
			t.Errorf("%s: Found has the code %d", name, code)
			continue
		}
		if code != 0 {
			if !noCtl(f) {
				t.Errorf("%s: beside the code %d is %s", name, code, ctlText(f))
			}
			continue
		}
		if stateText(f.State) != c.want || f.Journal.Count != c.count || f.Journal.Synced != len(f.Journal.Bytes) || !strings.HasPrefix(c.b, string(f.Journal.Bytes)) || !sameState(f.First, c.first) || !impl.CtlOk(f) {
			t.Errorf("%s: Found is %s", name, ctlText(f))
		}
	}
}

func TestFoundOfWrongFirstStates(t *testing.T) {
	for name, s := range someFirsts() {
		want, wanted := foundOf(s, []byte("0 lic 1/1/1\n1 lic"))
		if got, code := impl.Found(s, []byte("0 lic 1/1/1\n1 lic")); code != wanted || !sameCtl(got, want) {
			t.Errorf("%s: Found is %s, %d", name, ctlText(got), code)
		}
		if _, code := impl.Found(s, []byte("0 stop\n")); code != 2 && firstRight(s) || code != 1 && !firstRight(s) {
			t.Errorf("%s: Found of no command has the code %d", name, code)
		}
	}
}

func TestFoundOfChangedBytes(t *testing.T) {
	draw := rand.New(rand.NewSource(109))
	codes := map[int]int{}
	for _, c := range drawnCtls(t, 110, 12) {
		for range 25 {
			b := c.Journal.Bytes
			if draw.Intn(5) > 0 {
				b = changedBytes(draw, b)
			}
			// A record that was changed may go to a far time, to which the document's words would be gone through time by time.
			if bytes.Contains(b, []byte("go 1")) || bytes.Contains(b, []byte("go 9")) {
				continue
			}
			want, wanted := foundOf(c.First, b)
			got, code := impl.Found(c.First, b)
			if code != wanted || !sameCtl(got, want) {
				t.Errorf("Found of %.200q from %+v is %s, %d, not %s, %d", b, c.First, ctlText(got), code, ctlText(want), wanted)
			}
			codes[code]++
		}
	}
	if codes[0] < 500 || codes[2] < 100 {
		t.Errorf("%d times 0, %d times 2: too few to tell", codes[0], codes[2])
	}
}

// What is refused answers nothing and changes nothing; what is taken leaves a controller that is right.
func TestWhatIsRefusedChangesNothing(t *testing.T) {
	draw := rand.New(rand.NewSource(111))
	took, not := 0, 0
	for _, c := range drawnCtls(t, 112, 20) {
		for range 10 {
			x := drawnCmd(draw, c.State)
			kept := ctlCopy(c)
			d, code := impl.Take(c, x)
			s, also := impl.Apply(c.State, x)
			b, too := impl.Torn(c, x, 3)
			if code != also || code != too || !sameState(d.State, s) {
				t.Errorf("of %+v in %s Take is %s, %d, Apply %s, Torn %q, %d", x, ctlText(c), ctlText(d), code, codeText(s, also), b, too)
			}
			if !reflect.DeepEqual(ctlCopy(c), kept) {
				t.Errorf("Take of %+v has made %s of %s", x, ctlText(c), ctlText(kept))
			}
			if code == 0 {
				took++
				if !impl.CtlOk(d) || d.Journal.Count != c.Journal.Count+1 || !bytes.HasPrefix(d.Journal.Bytes, c.Journal.Bytes) {
					t.Errorf("Take of %+v in %s is %s", x, ctlText(c), ctlText(d))
				}
				continue
			}
			not++
			if !noCtl(d) || !noState(s) || len(b) > 0 {
				t.Errorf("beside the code %d are %s, %s, %q", code, ctlText(d), stateText(s), b)
			}
		}
	}
	if took < 500 || not < 200 {
		t.Errorf("%d are taken, %d not: too few to tell", took, not)
	}
}

func TestGoInStepsIsGoAtOnce(t *testing.T) {
	draw := rand.New(rand.NewSource(113))
	over := 0
	for _, c := range drawnCtls(t, 114, 20) {
		for range 8 {
			a := min(c.State.Now+draw.Intn(9), impl.MaxTime)
			b := min(a+draw.Intn(9), impl.MaxTime)
			once, code := impl.Take(c, goTo(b))
			step, first := impl.Take(c, goTo(a))
			twice, also := impl.Take(step, goTo(b))
			if code != 0 || first != 0 || also != 0 || !impl.SameState(once.State, twice.State) {
				t.Errorf("from %s to %d and %d is %s, %d, at once %s, %d", ctlText(c), a, b, ctlText(twice), also, ctlText(once), code)
			}
			if once.State.Now != b || once.Journal.Count != c.Journal.Count+1 || twice.Journal.Count != c.Journal.Count+2 {
				t.Errorf("from %s to %d and %d is %s, at once %s", ctlText(c), a, b, ctlText(twice), ctlText(once))
			}
			over += len(once.State.Ends) - len(c.State.Ends)
		}
	}
	// Where there are too many ends, neither goes.
	full := endedCtl(t, 299, "submit 9 0 1 0/0/0 0/0/0 9 0", "submit 8 0 1 0/0/0 0/0/0 5 0")
	step, first := impl.Take(full, goTo(5))
	_, once := impl.Take(full, goTo(9))
	_, twice := impl.Take(step, goTo(9))
	if first != 0 || once != 10 || twice != 10 {
		t.Errorf("with 299 ends to the first end %d, behind it %d, at once %d", first, twice, once)
	}
	if over < 200 {
		t.Errorf("%d ended on the way: too few to tell", over)
	}
}

func TestTheFirstThatWaitsCouldNotStartBehindACommand(t *testing.T) {
	draw := rand.New(rand.NewSource(115))
	waits, kinds := 0, map[int]int{}
	for _, topo := range smallTopos() {
		for range 4 {
			c := ctlFrom(t, drawnFirst(draw, topo))
			for range 30 {
				x := drawnCmd(draw, c.State)
				d, code := impl.Take(c, x)
				if code != 0 {
					continue
				}
				c = d
				order := impl.Order(c.State.Queue)
				if x.Kind == impl.CmdGo || len(order) == 0 {
					continue
				}
				waits++
				kinds[x.Kind]++
				if canNow(c.State, order[0]) {
					t.Errorf("behind %+v is %s, but %d could start", x, ctlText(c), order[0].Id)
				}
			}
		}
	}
	for kind := impl.CmdSubmit; kind < impl.CmdGo; kind++ {
		if kinds[kind] < 15 {
			t.Errorf("%d times one waits behind the kind %d: too few to tell", kinds[kind], kind)
		}
	}
	if waits < 700 {
		t.Errorf("%d times one waits: too few to tell", waits)
	}
}

// ctlLists has for each list of the controller what writes all over it, up to its capacity.
func ctlLists(c impl.Ctl) []func() {
	return slices.Concat(stateLists(c.State), stateLists(c.First), []func(){func() { writeOver(c.Journal.Bytes, '?') }})
}

// sharedCtl has lists with memory behind them; where First and State have the same, it is the very same list.
func sharedCtl(c impl.Ctl) impl.Ctl {
	d := impl.Ctl{State: sharedState(c.State), Journal: journalCopy(c.Journal)}
	d.First = d.State
	d.First.Up, d.First.Queue, d.First.Runs, d.First.Ends = withRoomBehind(c.First.Up, true), nil, nil, nil
	if slices.Equal(c.First.Up, c.State.Up) {
		d.First.Up = d.State.Up
	}
	d.First.Lic, d.First.Now = c.First.Lic, c.First.Now
	d.Journal.Bytes = withRoomBehind(c.Journal.Bytes, '#')
	return d
}

func ctlsToShare(t *testing.T) []impl.Ctl {
	t.Helper()
	l := []impl.Ctl{smallCtl(t)}
	for i, c := range drawnCtls(t, 116, 12) {
		if i%5 == 0 {
			l = append(l, c)
		}
	}
	return l
}

// cmdsToShare has commands that most often can be taken.
func cmdsToShare(c impl.Ctl) []impl.Cmd {
	l := []impl.Cmd{goTo(c.State.Now), goTo(min(c.State.Now+4, impl.MaxTime)), {Kind: 6, Lic: vec(9, 9, 9)}, submit(impl.Job{Id: 990, Nodes: 1, Wall: 1, Level: 3}), {}}
	for n := range c.State.Up {
		l = append(l, impl.Cmd{Kind: 4, N: n}, impl.Cmd{Kind: 5, N: n})
	}
	for _, j := range jobsOf(c.State) {
		l = append(l, impl.Cmd{Kind: 2, N: j.Id}, impl.Cmd{Kind: 3, N: j.Id})
	}
	return l
}

// ctlAnswers has the controllers that are worked out of c; what isn't a controller is put into one.
func ctlAnswers(c impl.Ctl) []impl.Ctl {
	fresh, _ := impl.CtlNew(c.First)
	found, _ := impl.Found(c.First, c.Journal.Bytes)
	l := []impl.Ctl{fresh, found}
	for _, x := range cmdsToShare(c) {
		d, _ := impl.Take(c, x)
		s, _ := impl.Apply(c.State, x)
		b, _ := impl.Torn(c, x, 4)
		l = append(l, d, impl.Ctl{State: s, Journal: impl.Journal{Bytes: b}})
	}
	return l
}

func TestCtlsAreLeftAlone(t *testing.T) {
	written := 0
	for _, ctl := range ctlsToShare(t) {
		c := sharedCtl(ctl)
		if !impl.CtlOk(c) {
			t.Fatalf("%s isn't right", ctlText(c))
		}
		whole := func() impl.Ctl {
			return ctlCopy(impl.Ctl{First: wholeState(c.First), State: wholeState(c.State), Journal: impl.Journal{Bytes: c.Journal.Bytes[:cap(c.Journal.Bytes)], Synced: c.Journal.Synced, Count: c.Journal.Count}})
		}
		kept := whole()
		for _, answer := range ctlAnswers(c) {
			for _, write := range ctlLists(answer) {
				write()
				written++
			}
		}
		impl.CtlOk(c)
		impl.SameState(c.First, c.State)
		impl.SameState(c.State, c.State)
		if !reflect.DeepEqual(whole(), kept) {
			t.Errorf("%s has become %s", ctlText(kept), ctlText(c))
		}
	}
	if written < 5000 {
		t.Errorf("%d lists were written over: too few to tell", written)
	}
}

func TestNoTwoListsOfACtlShareMemory(t *testing.T) {
	lists := 0
	for _, ctl := range ctlsToShare(t) {
		c := sharedCtl(ctl)
		for i, more := 0, true; more; i++ {
			more = false
			for k, answer := range ctlAnswers(c) {
				if i >= len(ctlLists(answer)) {
					continue
				}
				want := ctlCopy(answer)
				ctlLists(answer)[i]()
				// The same is written over in the copy, which shares nothing.
				ctlLists(want)[i]()
				if !sameCtl(answer, want) {
					t.Errorf("the answer %d of %s: its list %d shares memory with another", k, ctlText(c), i)
				}
				more = true
				lists++
			}
		}
	}
	if lists < 5000 {
		t.Errorf("%d lists: too few to tell", lists)
	}
}

// Whoever has the arguments or an answer may write to them again: the other answers stay as they were.
func TestCtlAnswersAreKeptByNobody(t *testing.T) {
	for _, ctl := range ctlsToShare(t) {
		c := sharedCtl(ctl)
		once, again := ctlAnswers(c), ctlAnswers(c)
		for _, answer := range once {
			for _, write := range ctlLists(answer) {
				write()
			}
		}
		if !slices.EqualFunc(again, ctlAnswers(c), sameCtl) {
			t.Errorf("the answers of %s have changed", ctlText(c))
		}
		var kept []impl.Ctl
		for _, answer := range again {
			kept = append(kept, ctlCopy(answer))
		}
		for _, write := range ctlLists(c) {
			write()
		}
		if !slices.EqualFunc(again, kept, sameCtl) {
			t.Error("answers have changed with what was handed in")
		}
	}
}

// oddStates has states whose lists don't go together, and whose numbers are at the ends of all numbers.
func oddStates() []impl.State {
	l := []impl.State{{}, {Up: []bool{true}}, {Topo: impl.Topo{Parents: []int{0, 5}}}, {Topo: impl.Topo{Parents: []int{0}, Nodes: []impl.Node{{Leaf: 9}}}, Up: []bool{true}}}
	for _, n := range []int{math.MinInt, -1, 999, math.MaxInt} {
		s := busy()
		s.Now, s.Depth = n, n
		l = append(l, s)
		s = busy()
		s.Runs[0].At, s.Runs[1].Nodes = n, []int{n, n}
		l = append(l, s)
		s = busy()
		s.Queue[0].Id, s.Ends[0].Id, s.Lic = n, n, vec(n, n, n)
		l = append(l, s)
		s = stateAt(0)
		s.Topo.Parents[1], s.Topo.Nodes[0].Leaf = n, n
		l = append(l, s)
	}
	return append(l, busy(), stateAt(0))
}

func oddCmds() []impl.Cmd {
	var l []impl.Cmd
	for kind := -1; kind <= 8; kind++ {
		for _, n := range []int{math.MinInt, -1, 0, 1, 23, 24, 999, math.MaxInt} {
			l = append(l, impl.Cmd{Kind: kind, N: n}, impl.Cmd{Kind: kind, Lic: vec(n, n, n)}, impl.Cmd{Kind: kind, Job: impl.Job{Id: n, Prio: n, Nodes: n, Wall: n, Level: n}})
		}
	}
	return append(l, impl.Cmd{Kind: math.MinInt}, impl.Cmd{Kind: math.MaxInt}, submit(planJob(50, 0, 1, 5, 0)))
}

func TestNoCallOfTheControllerPanics(t *testing.T) {
	texts := [][]byte{nil, {0}, {10}, []byte("0 go 5\n"), []byte("0 stop\n"), []byte("0 submit\n"), []byte("0  \n"), []byte("0 submit 1 1 1 1 1 1 1\n"), bytes.Repeat([]byte("0 go 5\n"), 9000)}
	for _, s := range oddStates() {
		for _, b := range texts {
			for _, n := range []int{math.MinInt, -1, 0, 1, len(b), math.MaxInt} {
				c := impl.Ctl{First: s, State: s, Journal: impl.Journal{Bytes: b, Synced: n, Count: n}}
				if panics(func() { impl.CtlOk(c); impl.CtlNew(s); impl.Found(s, b); impl.SameState(s, c.State) }) {
					t.Errorf("a call panics at %s", ctlText(c))
				}
				for _, x := range []impl.Cmd{{}, goTo(5), {Kind: 4, N: 1}, {Kind: -1, N: n}} {
					if panics(func() { impl.Take(c, x); impl.Torn(c, x, n) }) {
						t.Errorf("a call panics at %s with %+v", ctlText(c), x)
					}
				}
			}
		}
	}
	whole := smallCtl(t)
	for _, x := range oddCmds() {
		if panics(func() { impl.CmdOk(x); impl.CmdText(x); impl.Take(whole, x); impl.Torn(whole, x, x.N) }) {
			t.Errorf("a call panics with %+v", x)
		}
		for _, s := range oddStates() {
			if panics(func() { impl.Apply(s, x) }) {
				t.Errorf("Apply panics at %+v with %+v", s, x)
			}
		}
	}
	draw := rand.New(rand.NewSource(117))
	for range 20000 {
		b := make([]byte, draw.Intn(40))
		draw.Read(b)
		if panics(func() { impl.TextCmd(string(b)); impl.Found(stateAt(0), b) }) {
			t.Errorf("a call panics at %q", b)
		}
	}
}

// Runs lie in a map on the way, but what is told doesn't hang on the order in which a map is gone through.
func TestCtlAnswersAreAlwaysTheSame(t *testing.T) {
	c := fullCtl(t, 30)
	for i := range 20 {
		c = ctlBehind(t, c, submit(impl.Job{Id: 100 + i, Prio: 5, Nodes: 1, Need: vec(0, 0, 1), Wall: 3 + i%2, Level: 0}))
	}
	d, code := impl.Take(c, goTo(20))
	if code != 0 || len(d.State.Ends) < 15 {
		t.Fatalf("Take is %s, %d", ctlText(d), code)
	}
	for range 30 {
		again, _ := impl.Take(c, goTo(20))
		found, _ := impl.Found(c.First, d.Journal.Bytes)
		if !sameCtl(again, d) || !sameCtl(found, d) {
			t.Fatalf("Take is %s, then %s; Found %s", ctlText(d), ctlText(again), ctlText(found))
		}
	}
}
