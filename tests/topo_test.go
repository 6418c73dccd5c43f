package tests

import (
	"fmt"
	"math"
	"math/rand"
	"reflect"
	"regexp"
	"slices"
	"strconv"
	"strings"
	"testing"

	"loop.example/g00454/impl"
)

// reach has s and all switches below it, found from above, where the program goes up.
func reach(parents []int, s int) []int {
	l := []int{s}
	for c := 1; c < len(parents); c++ {
		if parents[c] == s {
			l = append(l, reach(parents, c)...)
		}
	}
	slices.Sort(l)
	return l
}

// depths has how far each leaf below s is from it.
func depths(parents []int, s int) []int {
	var l []int
	for c := 1; c < len(parents); c++ {
		if parents[c] == s {
			for _, d := range depths(parents, c) {
				l = append(l, d+1)
			}
		}
	}
	if l == nil {
		return []int{0}
	}
	return l
}

func treeRight(parents []int) bool {
	if len(parents) < 1 || len(parents) > 24 || parents[0] != 0 {
		return false
	}
	for s := 1; s < len(parents); s++ {
		if parents[s] < 0 || parents[s] >= s {
			return false
		}
	}
	for s := range parents {
		if d := depths(parents, s); slices.Min(d) != slices.Max(d) {
			return false
		}
	}
	return true
}

func topoRight(t impl.Topo) bool {
	if !treeRight(t.Parents) || len(t.Nodes) > 24 {
		return false
	}
	for _, n := range t.Nodes {
		if n.Leaf < 0 || n.Leaf >= len(t.Parents) || len(reach(t.Parents, n.Leaf)) != 1 || !vecRight(n.Cap) {
			return false
		}
	}
	return true
}

func leavesOf(parents []int) []int {
	var l []int
	for s := range parents {
		if len(reach(parents, s)) == 1 {
			l = append(l, s)
		}
	}
	return l
}

// everyTree calls f with every list of n parents out of lo to hi.
func everyTree(n, lo, hi int, f func([]int)) {
	var grow func([]int)
	grow = func(l []int) {
		if len(l) == n {
			f(slices.Clone(l))
			return
		}
		for p := lo; p <= hi; p++ {
			grow(append(slices.Clone(l), p))
		}
	}
	grow(nil)
}

// everyRightTree calls f with every right tree of up to n switches.
func everyRightTree(n int, f func([]int)) {
	var grow func([]int)
	grow = func(l []int) {
		if treeRight(l) {
			f(slices.Clone(l))
		}
		for p := 0; len(l) < n && p < len(l); p++ {
			grow(append(slices.Clone(l), p))
		}
	}
	grow([]int{0})
}

// withNodes deals n nodes to the leaves of the tree in turn, so that the nodes of a leaf don't lie side by side.
func withNodes(parents []int, n int) impl.Topo {
	t := impl.Topo{Parents: parents}
	leaves := leavesOf(parents)
	for i := range n {
		t.Nodes = append(t.Nodes, impl.Node{Leaf: leaves[i%len(leaves)], Cap: impl.Vec{A: i, B: 1000 * i, C: impl.MaxRes - i}})
	}
	return t
}

// tall is the chain of n switches, wide the one switch with all others below it.
func tall(n int) []int {
	l := make([]int, n)
	for s := 1; s < n; s++ {
		l[s] = s - 1
	}
	return l
}

func wide(n int) []int { return make([]int, n) }

// someTopos has the right topologies that the edges of the chapter ask for, and some drawn ones, always the same.
func someTopos() []impl.Topo {
	l := []impl.Topo{
		{Parents: []int{0}},
		withNodes([]int{0}, 1), withNodes([]int{0}, 24),
		{Parents: tall(24)}, withNodes(tall(24), 24), withNodes(tall(2), 3),
		{Parents: wide(24)}, withNodes(wide(24), 24), withNodes(wide(24), 5), withNodes(wide(2), 3),
		withNodes([]int{0, 0, 0, 1, 1, 2}, 7),
		withNodes([]int{0, 0, 1, 0, 3, 3, 1}, 9),
		withNodes([]int{0, 0, 0, 1, 2, 1, 2, 3, 4, 5, 6, 3, 4, 5, 6, 7, 8, 9, 10, 11, 12, 13, 14, 14}, 24),
	}
	draw := rand.New(rand.NewSource(1))
	for len(l) < 120 {
		t := withNodes(drawnTree(draw), 0)
		leaves := leavesOf(t.Parents)
		for range draw.Intn(25) {
			t.Nodes = append(t.Nodes, impl.Node{Leaf: leaves[draw.Intn(len(leaves))], Cap: impl.Vec{A: draw.Intn(impl.MaxRes + 1), B: draw.Intn(10), C: draw.Intn(2)}})
		}
		l = append(l, t)
	}
	return l
}

// drawnTree grows a tree layer by layer, and numbers its switches so that each parent is lesser, but not layer by layer.
func drawnTree(draw *rand.Rand) []int {
	for {
		parents, layer := []int{0}, []int{0}
		for range draw.Intn(5) {
			var next []int
			for _, s := range layer {
				for range 1 + draw.Intn(3) {
					next = append(next, len(parents))
					parents = append(parents, s)
				}
			}
			layer = next
		}
		if len(parents) <= 24 {
			return renumbered(parents, draw)
		}
	}
}

func renumbered(parents []int, draw *rand.Rand) []int {
	number := map[int]int{0: 0}
	l := []int{0}
	for len(l) < len(parents) {
		s := 1 + draw.Intn(len(parents)-1)
		_, told := number[s]
		if up, there := number[parents[s]]; there && !told {
			number[s] = len(l)
			l = append(l, up)
		}
	}
	return l
}

// wrongTopos has a name for each way in which a topology isn't right.
func wrongTopos() map[string]impl.Topo {
	node := func(parents []int, leaf int) impl.Topo {
		return impl.Topo{Parents: parents, Nodes: []impl.Node{{Leaf: leaf}}}
	}
	full := func(v impl.Vec) impl.Topo {
		return impl.Topo{Parents: []int{0}, Nodes: []impl.Node{{}, {Cap: v}}}
	}
	last := func(t impl.Topo, n impl.Node) impl.Topo {
		t.Nodes[len(t.Nodes)-1] = n
		return t
	}
	return map[string]impl.Topo{
		"no switch": {}, "no switch, a node": {Nodes: []impl.Node{{}}},
		"one switch too many, wide": {Parents: wide(25)}, "one switch too many, tall": {Parents: tall(25)},
		"far too many switches":      {Parents: wide(5000)},
		"a first with a parent of 1": {Parents: []int{1}}, "a first with 1 of two": {Parents: []int{1, 0}},
		"a first with -1": {Parents: []int{-1}}, "a first with -1 of two": {Parents: []int{-1, 0}},
		"its own parent": {Parents: []int{0, 1}}, "its own parent, last": {Parents: []int{0, 0, 2}},
		"a greater parent": {Parents: []int{0, 2, 0}}, "round": {Parents: []int{0, 2, 1}},
		"a parent that isn't there": {Parents: []int{0, 0, 3}}, "a far parent": {Parents: []int{0, 24}},
		"a parent below 0": {Parents: []int{0, -1}}, "a parent below 0, last": {Parents: []int{0, 0, -1}},
		"the least parent": {Parents: []int{0, math.MinInt}}, "the greatest parent": {Parents: []int{0, math.MaxInt}},
		"leaves at 1 and 2": {Parents: []int{0, 0, 0, 1}}, "leaves at 2 and 1": {Parents: []int{0, 0, 0, 2}},
		"leaves at 1 and 3":          {Parents: []int{0, 0, 1, 2, 0}},
		"leaves not equal far below": {Parents: []int{0, 0, 1, 1, 2}},
		"only the tops not equal":    {Parents: []int{0, 0, 0, 1, 2, 4}},
		"one node too many":          withNodes([]int{0}, 25), "one node too many, wide": withNodes(wide(24), 25),
		"far too many nodes": withNodes([]int{0}, 5000),
		"a node at the top":  node([]int{0, 0}, 0), "a node at a switch between": node([]int{0, 0, 1}, 1),
		"a leaf of -1": node([]int{0}, -1), "a leaf that isn't there": node([]int{0}, 1), "a leaf just beyond": node([]int{0, 0}, 2),
		"a leaf of 24": node(wide(24), 24), "the least leaf": node([]int{0}, math.MinInt), "the greatest leaf": node([]int{0}, math.MaxInt),
		"a room below 0": full(impl.Vec{A: -1}), "a room below 0 in B": full(impl.Vec{B: -1}), "a room below 0 in C": full(impl.Vec{C: -1}),
		"a room too great": full(impl.Vec{A: impl.MaxRes + 1}), "a room too great in C": full(impl.Vec{C: impl.MaxRes + 1}),
		"the greatest room":       full(impl.Vec{B: math.MaxInt}),
		"the last of 24 at a top": last(withNodes(wide(24), 24), impl.Node{}), "the last of 24 too great": last(withNodes(wide(24), 24), impl.Node{Leaf: 1, Cap: impl.Vec{B: impl.MaxRes + 1}}),
	}
}

func TestTopoLimits(t *testing.T) {
	if impl.MaxSwitches != 24 || impl.MaxNodes != 24 {
		t.Errorf("MaxSwitches %d, MaxNodes %d", impl.MaxSwitches, impl.MaxNodes)
	}
}

func TestTopoOk(t *testing.T) {
	for n := range 6 {
		everyTree(n, -1, n, func(parents []int) {
			if got := impl.TopoOk(impl.Topo{Parents: parents}); got != treeRight(parents) {
				t.Errorf("TopoOk with the parents %v is %v", parents, got)
			}
		})
	}
	for _, topo := range someTopos() {
		if !topoRight(topo) || !impl.TopoOk(topo) {
			t.Errorf("TopoOk(%v) is false", topo)
		}
	}
	for name, topo := range wrongTopos() {
		if topoRight(topo) || impl.TopoOk(topo) {
			t.Errorf("TopoOk of %s is true", name)
		}
	}
}

func TestTopoOkOfDrawnParents(t *testing.T) {
	draw := rand.New(rand.NewSource(2))
	for _, topo := range someTopos() {
		for range 40 {
			parents := slices.Clone(topo.Parents)
			parents[draw.Intn(len(parents))] = draw.Intn(len(parents)+2) - 1
			changed := impl.Topo{Parents: parents, Nodes: topo.Nodes}
			if got := impl.TopoOk(changed); got != topoRight(changed) {
				t.Errorf("TopoOk(%v) is %v", changed, got)
			}
		}
	}
}

func TestTopoOkOfNodes(t *testing.T) {
	everyRightTree(6, func(parents []int) {
		for leaf := -2; leaf <= len(parents)+1; leaf++ {
			topo := withNodes(parents, 3)
			topo.Nodes = append(topo.Nodes, impl.Node{Leaf: leaf})
			if got := impl.TopoOk(topo); got != topoRight(topo) {
				t.Errorf("TopoOk(%v) is %v", topo, got)
			}
		}
	})
	for _, v := range vecsOf(edges) {
		topo := withNodes(wide(3), 4)
		topo.Nodes[2].Cap = v
		if got := impl.TopoOk(topo); got != vecRight(v) {
			t.Errorf("TopoOk with the room %v is %v", v, got)
		}
	}
	for n := range 40 {
		if got := impl.TopoOk(withNodes(wide(5), n)); got != (n <= 24) {
			t.Errorf("TopoOk with %d nodes is %v", n, got)
		}
		if got := impl.TopoOk(impl.Topo{Parents: wide(n)}); got != (n >= 1 && n <= 24) {
			t.Errorf("TopoOk with %d switches is %v", n, got)
		}
	}
}

// noSwitches has numbers that are no switch of a topology with n.
func noSwitches(n int) []int {
	return []int{math.MinInt, -impl.MaxSwitches, -2, -1, n, n + 1, 24, 25, 1000, math.MaxInt}
}

func TestLevel(t *testing.T) {
	for _, topo := range someTopos() {
		for s := range topo.Parents {
			if got := impl.Level(topo, s); got != depths(topo.Parents, s)[0] {
				t.Errorf("Level(%v, %d) is %d", topo, s, got)
			}
		}
		for _, s := range noSwitches(len(topo.Parents)) {
			if got := impl.Level(topo, s); got != -1 {
				t.Errorf("Level(%v, %d) is %d", topo, s, got)
			}
		}
	}
	if impl.Level(impl.Topo{Parents: tall(24)}, 0) != 23 || impl.Level(impl.Topo{Parents: wide(24)}, 0) != 1 || impl.Level(impl.Topo{Parents: []int{0}}, 0) != 0 {
		t.Error("the levels of the tallest, the widest, the least top")
	}
}

func TestBelow(t *testing.T) {
	for _, topo := range someTopos() {
		for s := range topo.Parents {
			var want []int
			for n, node := range topo.Nodes {
				if slices.Contains(reach(topo.Parents, s), node.Leaf) {
					want = append(want, n)
				}
			}
			if got := impl.Below(topo, s); !slices.Equal(got, want) {
				t.Errorf("Below(%v, %d) is %v", topo, s, got)
			}
		}
		for _, s := range noSwitches(len(topo.Parents)) {
			if got := impl.Below(topo, s); len(got) != 0 {
				t.Errorf("Below(%v, %d) is %v", topo, s, got)
			}
		}
	}
}

func TestAbove(t *testing.T) {
	for _, topo := range someTopos() {
		for s := range topo.Parents {
			want := []int{s}
			for at := s; at != 0; {
				at = topo.Parents[at]
				want = append(want, at)
			}
			if got := impl.Above(topo, s); !slices.Equal(got, want) {
				t.Errorf("Above(%v, %d) is %v", topo, s, got)
			}
		}
		for _, s := range noSwitches(len(topo.Parents)) {
			if got := impl.Above(topo, s); len(got) != 0 {
				t.Errorf("Above(%v, %d) is %v", topo, s, got)
			}
		}
	}
}

// nodeLists has of n nodes each alone, each pair (of one node too), all, all twice and backwards, and some drawn ones.
func nodeLists(n int) [][]int {
	var l [][]int
	var all []int
	for a := range n {
		all = append(all, a)
		l = append(l, []int{a})
		for b := range n {
			l = append(l, []int{a, b})
		}
	}
	if n == 0 {
		return nil
	}
	back := slices.Clone(all)
	slices.Reverse(back)
	l = append(l, all, append(slices.Clone(all), back...), back)
	draw := rand.New(rand.NewSource(3))
	for range 60 {
		var some []int
		for range 1 + draw.Intn(5) {
			some = append(some, draw.Intn(n))
		}
		l = append(l, some)
	}
	return l
}

// noNodes has lists of which one is no node of a topology with n.
func noNodes(n int) [][]int {
	var l [][]int
	for _, wrong := range []int{math.MinInt, -2, -1, n, n + 1, 24, 1000, math.MaxInt} {
		l = append(l, []int{wrong})
		if n > 0 {
			l = append(l, []int{0, wrong}, []int{wrong, 0}, []int{0, wrong, n - 1})
		}
	}
	return l
}

func hasAll(topo impl.Topo, s int, nodes []int) bool {
	for _, n := range nodes {
		if !slices.Contains(reach(topo.Parents, s), topo.Nodes[n].Leaf) {
			return false
		}
	}
	return true
}

// lowestOf goes over all switches as the document's words have it.
func lowestOf(topo impl.Topo, nodes []int) int {
	best := -1
	for s := range topo.Parents {
		if !hasAll(topo, s, nodes) {
			continue
		}
		if best < 0 || depths(topo.Parents, s)[0] <= depths(topo.Parents, best)[0] {
			best = s
		}
	}
	return best
}

func TestLowest(t *testing.T) {
	for _, topo := range someTopos() {
		for _, nodes := range nodeLists(len(topo.Nodes)) {
			if got := impl.Lowest(topo, nodes); got != lowestOf(topo, nodes) {
				t.Errorf("Lowest(%v, %v) is %d", topo, nodes, got)
			}
		}
		for _, nodes := range append(noNodes(len(topo.Nodes)), nil, []int{}) {
			if got := impl.Lowest(topo, nodes); got != -1 {
				t.Errorf("Lowest(%v, %v) is %d", topo, nodes, got)
			}
		}
	}
	everyRightTree(6, func(parents []int) {
		topo := withNodes(parents, 6)
		for _, nodes := range nodeLists(6) {
			if got := impl.Lowest(topo, nodes); got != lowestOf(topo, nodes) {
				t.Errorf("Lowest(%v, %v) is %d", topo, nodes, got)
			}
		}
	})
}

func TestLowestIsOnEachWayUp(t *testing.T) {
	for _, topo := range someTopos() {
		for _, nodes := range nodeLists(len(topo.Nodes)) {
			s := impl.Lowest(topo, nodes)
			for _, n := range nodes {
				if !slices.Contains(impl.Above(topo, topo.Nodes[n].Leaf), s) {
					t.Errorf("Lowest(%v, %v) is %d, and not above the leaf of %d", topo, nodes, s, n)
				}
				if !slices.Contains(impl.Below(topo, s), n) {
					t.Errorf("Lowest(%v, %v) is %d, and %d isn't below it", topo, nodes, s, n)
				}
			}
			noneIsLower(t, topo, nodes, s)
		}
	}
}

func noneIsLower(t *testing.T, topo impl.Topo, nodes []int, s int) {
	t.Helper()
	for other := range topo.Parents {
		level, least := impl.Level(topo, other), impl.Level(topo, s)
		if level > least || level == least && other <= s {
			continue
		}
		below := impl.Below(topo, other)
		if !slices.ContainsFunc(nodes, func(n int) bool { return !slices.Contains(below, n) }) {
			t.Errorf("Lowest(%v, %v) is %d, but %d is lower", topo, nodes, s, other)
		}
	}
}

func TestLowestByHand(t *testing.T) {
	// 0 over 1 and 2; 1 over 3 and 4; 2 over 5 and 6.
	topo := impl.Topo{Parents: []int{0, 0, 0, 1, 1, 2, 2}, Nodes: []impl.Node{{Leaf: 6}, {Leaf: 3}, {Leaf: 4}, {Leaf: 3}, {Leaf: 5}, {Leaf: 3}}}
	for _, c := range []struct {
		nodes []int
		want  int
	}{
		{[]int{1}, 3}, {[]int{0}, 6}, {[]int{1, 1}, 3}, {[]int{2, 2, 2}, 4},
		{[]int{1, 3, 5}, 3}, {[]int{5, 2}, 1}, {[]int{0, 4}, 2}, {[]int{4, 0, 4}, 2},
		{[]int{1, 4}, 0}, {[]int{0, 1}, 0}, {[]int{2, 3, 0}, 0}, {[]int{0, 1, 2, 3, 4, 5}, 0},
	} {
		if got := impl.Lowest(topo, c.nodes); got != c.want {
			t.Errorf("Lowest of %v is %d", c.nodes, got)
		}
	}
	chain := withNodes(tall(24), 24)
	if got := impl.Lowest(chain, []int{3, 20}); got != 23 {
		t.Errorf("Lowest in the chain is %d", got)
	}
	if got := impl.Lowest(withNodes(wide(24), 24), []int{3, 20}); got != 0 {
		t.Errorf("Lowest of two leaves below the top is %d", got)
	}
}

func TestLeaves(t *testing.T) {
	for _, topo := range someTopos() {
		for _, nodes := range append(nodeLists(len(topo.Nodes)), nil) {
			leaves := map[int]bool{}
			for _, n := range nodes {
				leaves[topo.Nodes[n].Leaf] = true
			}
			if got := impl.Leaves(topo, nodes); got != len(leaves) {
				t.Errorf("Leaves(%v, %v) is %d", topo, nodes, got)
			}
		}
		for _, nodes := range noNodes(len(topo.Nodes)) {
			if got := impl.Leaves(topo, nodes); got != -1 {
				t.Errorf("Leaves(%v, %v) is %d", topo, nodes, got)
			}
		}
	}
	if got := impl.Leaves(withNodes(tall(24), 24), []int{0, 5, 23}); got != 1 {
		t.Errorf("Leaves in the chain is %d", got)
	}
}

func TestOfWrongTopos(t *testing.T) {
	for name, topo := range wrongTopos() {
		for _, s := range []int{math.MinInt, -1, 0, 1, 2, 5, 23, 24, 25, math.MaxInt} {
			if impl.Level(topo, s) != -1 || len(impl.Below(topo, s)) != 0 || len(impl.Above(topo, s)) != 0 {
				t.Errorf("%s: the level, below or above of %d is something", name, s)
			}
		}
		for _, nodes := range [][]int{nil, {0}, {0, 1}, {0, 0}, {-1}, {24}, {math.MaxInt}} {
			if impl.Lowest(topo, nodes) != -1 || impl.Leaves(topo, nodes) != -1 {
				t.Errorf("%s: the lowest or the leaves of %v is something", name, nodes)
			}
		}
		if impl.TopoText(topo) != "" {
			t.Errorf("%s: there is a text", name)
		}
	}
}

func TestTopoText(t *testing.T) {
	for _, topo := range someTopos() {
		want := ""
		for _, p := range topo.Parents[1:] {
			want += fmt.Sprintf("switch %d\n", p)
		}
		for _, n := range topo.Nodes {
			want += fmt.Sprintf("node %d %d/%d/%d\n", n.Leaf, n.Cap.A, n.Cap.B, n.Cap.C)
		}
		if got := impl.TopoText(topo); got != want {
			t.Errorf("TopoText(%v) is %q", topo, got)
		}
	}
}

func sameTopo(a, b impl.Topo) bool {
	return slices.Equal(a.Parents, b.Parents) && slices.Equal(a.Nodes, b.Nodes)
}

func TestTopoIsReadAsWritten(t *testing.T) {
	written := func(topo impl.Topo) {
		if got, ok := impl.TextTopo(impl.TopoText(topo)); !ok || !sameTopo(got, topo) {
			t.Errorf("%v is read as %v, %v", topo, got, ok)
		}
	}
	for _, topo := range someTopos() {
		written(topo)
	}
	everyRightTree(7, func(parents []int) {
		for n := range 4 {
			written(withNodes(parents, n))
		}
	})
	if got, ok := impl.TextTopo(""); !ok || !sameTopo(got, impl.Topo{Parents: []int{0}}) {
		t.Errorf("the empty text is read as %v, %v", got, ok)
	}
}

var topoForm = regexp.MustCompile(`\A(switch (0|[1-9][0-9]{0,8}|1000000000)\n)*(node (0|[1-9][0-9]{0,8}|1000000000) [0-9/]+\n)*\z`)

// formTopo reads a text by its form as a whole, ahead of its lines.
func formTopo(s string) (impl.Topo, bool) {
	if !topoForm.MatchString(s) {
		return impl.Topo{}, false
	}
	t := impl.Topo{Parents: []int{0}}
	for _, l := range strings.Split(strings.TrimSuffix(s, "\n"), "\n") {
		words := append(strings.Fields(l), "", "", "")
		n, _ := strconv.Atoi(words[1])
		room, right := formVec(words[2])
		switch {
		case words[0] == "switch":
			t.Parents = append(t.Parents, n)
		case words[0] == "node" && right:
			t.Nodes = append(t.Nodes, impl.Node{Leaf: n, Cap: room})
		case words[0] == "node":
			return impl.Topo{}, false
		}
	}
	if !topoRight(t) {
		return impl.Topo{}, false
	}
	return t, true
}

func readByForm(t *testing.T, s string) {
	t.Helper()
	want, right := formTopo(s)
	if got, ok := impl.TextTopo(s); ok != right || !sameTopo(got, want) {
		t.Errorf("TextTopo(%.200q) is %v, %v", s, got, ok)
	}
}

// everyRow calls f with all texts made of up to n of the pieces.
func everyRow(pieces []string, n int, f func(string)) {
	f("")
	if n == 0 {
		return
	}
	for _, p := range pieces {
		everyRow(pieces, n-1, func(s string) { f(p + s) })
	}
}

func TestEveryShortTopoTextIsReadByItsForm(t *testing.T) {
	everyRow([]string{"switch", "node", " ", "\n", "0", "1", "0/0/0"}, 6, func(s string) { readByForm(t, s) })
	everyRow([]string{
		"switch 0\n", "switch 1\n", "switch 2\n", "switch 0", "switch 00\n",
		"node 0 1/2/3\n", "node 1 0/0/0\n", "node 3 1000000/0/1\n", "node 1 1000001/0/0\n", "\n", " ",
	}, 5, func(s string) { readByForm(t, s) })
}

func TestChangedTopoTextIsReadByItsForm(t *testing.T) {
	for _, s := range []string{
		"", "switch 0\n", "node 0 4/8/0\n", "node 0 1000000/0/0\nnode 0 0/0/0\n",
		"switch 0\nswitch 0\nswitch 1\nswitch 1\nswitch 2\nnode 3 4/8/0\nnode 3 4/8/0\nnode 4 4/8/10\nnode 5 4/8/0\n",
		impl.TopoText(withNodes(tall(24), 24)), impl.TopoText(withNodes(wide(24), 24)),
	} {
		for i := range len(s) + 1 {
			for _, b := range []string{" ", "\n", "\r", "\t", "\x00", "0", "1", "9", "-", "+", "/", "s", "n", "switch 0\n", "node 1 0/0/0\n"} {
				readByForm(t, s[:i]+b+s[i:])
				if i < len(s) {
					readByForm(t, s[:i]+b+s[i+1:])
				}
			}
			readByForm(t, s[:i])
			readByForm(t, s[i:])
			if i < len(s) {
				readByForm(t, s[:i]+s[i+1:])
			}
		}
	}
}

func TestTextOfNoTopo(t *testing.T) {
	for name, s := range map[string]string{
		"a line that isn't ended": "switch 0", "a last line that isn't ended": "switch 0\nnode 1 0/0/0",
		"an empty line": "\n", "an empty line at the end": "switch 0\n\n", "an empty line between": "switch 0\n\nnode 1 0/0/0\n", "an empty line first": "\nswitch 0\n",
		"two blanks": "switch  0\n", "two blanks in a node": "node 0  1/2/3\n",
		"a blank in front": " switch 0\n", "a blank behind": "switch 0 \n", "a blank behind a node": "node 0 1/2/3 \n", "a blank behind the end": "switch 0\n ",
		"a tab": "switch\t0\n", "a byte 13": "switch 0\r\n", "a zero byte": "switch 0\x00\n",
		"a switch behind a node": "node 0 0/0/0\nswitch 0\n", "a switch among nodes": "switch 0\nnode 1 0/0/0\nswitch 0\nnode 2 0/0/0\n",
		"a 0 in front": "switch 00\n", "a 0 in front of a leaf": "switch 0\nnode 01 0/0/0\n", "a 0 in front of an amount": "node 0 00/0/0\n",
		"a sign": "switch +0\n", "a sign of a leaf": "node -0 0/0/0\n",
		"a parent not there yet": "switch 1\n", "a parent far beyond": "switch 0\nswitch 5\n", "the greatest time as parent": "switch 1000000000\n", "a parent too great to be a time": "switch 1000000001\n",
		"leaves not equally far": "switch 0\nswitch 0\nswitch 1\n",
		"a leaf that is none":    "switch 0\nnode 0 0/0/0\n", "a leaf that isn't there": "node 1 0/0/0\n", "a leaf far beyond": "node 1000000000 0/0/0\n",
		"a room too great": "node 0 1000001/0/0\n", "a room too great in C": "node 0 0/0/1000001\n", "a room of two": "node 0 0/0\n", "a room of four": "node 0 0/0/0/0\n", "a room below 0": "node 0 -1/0/0\n",
		"no number": "switch\n", "no room": "node 0\n", "a word alone": "node\n", "a word too many": "switch 0 0\n", "a word too many in a node": "node 0 0/0/0 0\n", "a switch with a room": "switch 0 0/0/0\n", "a node without a leaf": "node 0/0/0\n",
		"another word": "switches 0\n", "another case": "Switch 0\n", "no word": "0\n",
		"one switch too many": strings.Repeat("switch 0\n", 24), "one node too many": strings.Repeat("node 0 0/0/0\n", 25),
		"far too many": strings.Repeat("switch 0\n", 10000) + strings.Repeat("node 1 0/0/0\n", 10000),
		"a long word":  strings.Repeat("switch", 10000), "many blanks": strings.Repeat(" ", 100000), "many ends": strings.Repeat("\n", 100000),
	} {
		if got, ok := impl.TextTopo(s); ok || got.Parents != nil || got.Nodes != nil {
			t.Errorf("%s: TextTopo is %v, %v", name, got, ok)
		}
	}
	for name, s := range map[string]string{"the most switches": strings.Repeat("switch 0\n", 23), "the most nodes": strings.Repeat("node 0 0/0/0\n", 24)} {
		if got, ok := impl.TextTopo(s); !ok || impl.TopoText(got) != s {
			t.Errorf("%s: TextTopo is %v, %v", name, got, ok)
		}
	}
}

func copyOf(topo impl.Topo) impl.Topo {
	return impl.Topo{Parents: slices.Clone(topo.Parents), Nodes: slices.Clone(topo.Nodes)}
}

func TestTopoArgumentsAreLeftAlone(t *testing.T) {
	for _, topo := range someTopos() {
		kept := copyOf(topo)
		nodes := []int{0, len(topo.Nodes) - 1, 0}
		given := slices.Clone(nodes)
		for s := range topo.Parents {
			for _, l := range [][]int{impl.Above(topo, s), impl.Below(topo, s)} {
				for i := range l {
					l[i] = -7
				}
			}
			impl.Level(topo, s)
		}
		impl.Lowest(topo, nodes)
		impl.Leaves(topo, nodes)
		impl.TopoText(topo)
		if !reflect.DeepEqual(topo, kept) || !slices.Equal(nodes, given) {
			t.Errorf("%v has become %v, %v has become %v", kept, topo, given, nodes)
		}
	}
}

func TestTopoAnswersAreKeptByNobody(t *testing.T) {
	topo := withNodes(wide(4), 6)
	s := impl.TopoText(topo)
	once, _ := impl.TextTopo(s)
	once.Parents[1], once.Nodes[0].Leaf = 9, 9
	impl.Above(topo, 1)[0] = 9
	impl.Below(topo, 0)[0] = 9
	if again, ok := impl.TextTopo(s); !ok || !sameTopo(again, topo) {
		t.Errorf("the second answer is %v, %v", again, ok)
	}
	if !slices.Equal(impl.Above(topo, 1), []int{1, 0}) || !slices.Equal(impl.Below(topo, 0), []int{0, 1, 2, 3, 4, 5}) {
		t.Error("the second answers of Above or Below are others")
	}
}
