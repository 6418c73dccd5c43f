package impl

import (
	"strconv"
	"strings"
)

const MaxRes = 1000000
const MaxTime = 1000000000

type Vec struct {
	A int
	B int
	C int
}

func VecOk(v Vec) bool {
	return noneAbove([3]int{}, amounts(v)) && noneAbove(amounts(v), [3]int{MaxRes, MaxRes, MaxRes})
}

func VecFits(a Vec, b Vec) bool {
	return VecOk(a) && VecOk(b) && noneAbove(amounts(a), amounts(b))
}

func VecAdd(a Vec, b Vec) (Vec, bool) {
	return rightPair(a, b, sum)
}

func VecSub(a Vec, b Vec) (Vec, bool) {
	return rightPair(a, b, difference)
}

func VecMin(a Vec, b Vec) Vec {
	v, _ := rightPair(a, b, lesser)
	return v
}

func VecText(v Vec) string {
	if !VecOk(v) {
		return ""
	}
	return NumText(v.A) + "/" + NumText(v.B) + "/" + NumText(v.C)
}

func TextVec(s string) (Vec, bool) {
	pieces := Parts(s, '/')
	var l [3]int
	if len(pieces) != len(l) {
		return Vec{}, false
	}
	for i, piece := range pieces {
		n, ok := TextNum(piece)
		if !ok {
			return Vec{}, false
		}
		l[i] = n
	}
	if v := vecOf(l); VecOk(v) {
		return v, true
	}
	return Vec{}, false
}

func NumText(n int) string {
	if !timeOk(n) {
		return ""
	}
	return strconv.Itoa(n)
}

func TextNum(s string) (int, bool) {
	n, err := strconv.Atoi(s)
	// Atoi also reads signs and a '0' in front, which NumText never writes.
	if err != nil || NumText(n) != s {
		return 0, false
	}
	return n, true
}

func Parts(s string, b byte) []string {
	// string(b) would be the two bytes of a rune where b is above 127.
	pieces := strings.Split(s, string([]byte{b}))
	for i, piece := range pieces {
		// Split's pieces lie in the memory of s; an answer shares none with an argument.
		pieces[i] = strings.Clone(piece)
	}
	return pieces
}

func timeOk(n int) bool {
	return 0 <= n && n <= MaxTime
}

func amounts(v Vec) [3]int {
	return [3]int{v.A, v.B, v.C}
}

func vecOf(l [3]int) Vec {
	return Vec{A: l[0], B: l[1], C: l[2]}
}

func pairwise(a [3]int, b [3]int, f func(int, int) int) [3]int {
	var l [3]int
	for i := range l {
		l[i] = f(a[i], b[i])
	}
	return l
}

func noneAbove(a [3]int, b [3]int) bool {
	return pairwise(a, b, lesser) == a
}

// rightPair looks at a and b ahead of f, so that no sum or difference can wrap round.
func rightPair(a Vec, b Vec, f func(int, int) int) (Vec, bool) {
	if !VecOk(a) || !VecOk(b) {
		return Vec{}, false
	}
	if v := vecOf(pairwise(amounts(a), amounts(b), f)); VecOk(v) {
		return v, true
	}
	return Vec{}, false
}

func lesser(x int, y int) int {
	return min(x, y)
}

func sum(x int, y int) int {
	return x + y
}

func difference(x int, y int) int {
	return x - y
}
