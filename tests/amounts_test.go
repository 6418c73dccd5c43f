package tests

import (
	"fmt"
	"math"
	"regexp"
	"strconv"
	"strings"
	"testing"
	"unsafe"

	"loop.example/g00454/impl"
)

// edges has the limits that the document names, their neighbours, and the ends of int.
var edges = []int{
	math.MinInt, math.MinInt + 1, -impl.MaxTime, -impl.MaxRes - 1, -impl.MaxRes, -1, 0, 1, 2, 9, 10,
	impl.MaxRes / 2, impl.MaxRes/2 + 1, impl.MaxRes - 1, impl.MaxRes, impl.MaxRes + 1,
	impl.MaxTime - 1, impl.MaxTime, impl.MaxTime + 1, math.MaxInt - 1, math.MaxInt,
}

func amountRight(n int) bool { return n >= 0 && n <= 1000000 }

func vecRight(v impl.Vec) bool {
	return amountRight(v.A) && amountRight(v.B) && amountRight(v.C)
}

func vecsOf(amounts []int) []impl.Vec {
	var l []impl.Vec
	for _, a := range amounts {
		for _, b := range amounts {
			for _, c := range amounts {
				l = append(l, impl.Vec{A: a, B: b, C: c})
			}
		}
	}
	return l
}

// pairsOf has every pair of vectors of a few telling amounts, and pairs that differ in one place at all edges.
func pairsOf() [][2]impl.Vec {
	var l [][2]impl.Vec
	few := vecsOf([]int{-1, 0, 1, impl.MaxRes - 1, impl.MaxRes, impl.MaxRes + 1})
	for _, a := range few {
		for _, b := range few {
			l = append(l, [2]impl.Vec{a, b})
		}
	}
	for _, x := range edges {
		for _, y := range edges {
			l = append(l,
				[2]impl.Vec{{A: x, B: 3, C: 5}, {A: y, B: 4, C: 6}},
				[2]impl.Vec{{A: 3, B: x, C: 5}, {A: 4, B: y, C: 6}},
				[2]impl.Vec{{A: 3, B: 5, C: x}, {A: 4, B: 6, C: y}},
				[2]impl.Vec{{A: x, B: x, C: x}, {A: y, B: y, C: y}})
		}
	}
	return l
}

func TestLimits(t *testing.T) {
	if impl.MaxRes != 1000000 || impl.MaxTime != 1000000000 {
		t.Errorf("MaxRes %d, MaxTime %d", impl.MaxRes, impl.MaxTime)
	}
}

func TestVecOk(t *testing.T) {
	for _, v := range vecsOf(edges) {
		if got := impl.VecOk(v); got != vecRight(v) {
			t.Errorf("VecOk(%v) is %v", v, got)
		}
	}
}

func TestVecFits(t *testing.T) {
	for _, p := range pairsOf() {
		a, b := p[0], p[1]
		want := vecRight(a) && vecRight(b) && a.A <= b.A && a.B <= b.B && a.C <= b.C
		if got := impl.VecFits(a, b); got != want {
			t.Errorf("VecFits(%v, %v) is %v", a, b, got)
		}
	}
}

func TestVecAdd(t *testing.T) {
	for _, p := range pairsOf() {
		a, b := p[0], p[1]
		want, right := impl.Vec{A: a.A + b.A, B: a.B + b.B, C: a.C + b.C}, true
		if !vecRight(a) || !vecRight(b) || !vecRight(want) {
			want, right = impl.Vec{}, false
		}
		if got, ok := impl.VecAdd(a, b); got != want || ok != right {
			t.Errorf("VecAdd(%v, %v) is %v, %v", a, b, got, ok)
		}
	}
}

func TestVecSub(t *testing.T) {
	for _, p := range pairsOf() {
		a, b := p[0], p[1]
		want, right := impl.Vec{A: a.A - b.A, B: a.B - b.B, C: a.C - b.C}, true
		if !vecRight(a) || !vecRight(b) || !vecRight(want) {
			want, right = impl.Vec{}, false
		}
		if got, ok := impl.VecSub(a, b); got != want || ok != right {
			t.Errorf("VecSub(%v, %v) is %v, %v", a, b, got, ok)
		}
	}
}

func TestVecMin(t *testing.T) {
	for _, p := range pairsOf() {
		a, b := p[0], p[1]
		want := impl.Vec{}
		if vecRight(a) && vecRight(b) {
			want = impl.Vec{A: min(a.A, b.A), B: min(a.B, b.B), C: min(a.C, b.C)}
		}
		if got := impl.VecMin(a, b); got != want {
			t.Errorf("VecMin(%v, %v) is %v", a, b, got)
		}
	}
}

func TestVecSumsByHand(t *testing.T) {
	most := impl.Vec{A: 1000000, B: 1000000, C: 1000000}
	a, b := impl.Vec{A: 1, B: 20, C: 300}, impl.Vec{A: 4, B: 50, C: 600}
	if v, ok := impl.VecAdd(a, b); !ok || v != (impl.Vec{A: 5, B: 70, C: 900}) {
		t.Errorf("sum %v, %v", v, ok)
	}
	if v, ok := impl.VecSub(b, a); !ok || v != (impl.Vec{A: 3, B: 30, C: 300}) {
		t.Errorf("difference %v, %v", v, ok)
	}
	if v, ok := impl.VecAdd(most, impl.Vec{}); !ok || v != most {
		t.Errorf("most and none %v, %v", v, ok)
	}
	if v, ok := impl.VecAdd(most, impl.Vec{C: 1}); ok || v != (impl.Vec{}) {
		t.Errorf("above the most %v, %v", v, ok)
	}
	if v, ok := impl.VecSub(most, most); !ok || v != (impl.Vec{}) {
		t.Errorf("most less most %v, %v", v, ok)
	}
	if v, ok := impl.VecSub(impl.Vec{A: 9, B: 9}, impl.Vec{C: 1}); ok || v != (impl.Vec{}) {
		t.Errorf("below none %v, %v", v, ok)
	}
	// What comes would be right, what goes in isn't.
	if v, ok := impl.VecAdd(impl.Vec{A: -1}, impl.Vec{A: 1}); ok || v != (impl.Vec{}) {
		t.Errorf("sum of a wrong one %v, %v", v, ok)
	}
	if v, ok := impl.VecSub(impl.Vec{B: 1000001}, impl.Vec{B: 1}); ok || v != (impl.Vec{}) {
		t.Errorf("difference of a wrong one %v, %v", v, ok)
	}
}

func TestVecText(t *testing.T) {
	for _, v := range vecsOf(edges) {
		want := ""
		if vecRight(v) {
			want = fmt.Sprintf("%d/%d/%d", v.A, v.B, v.C)
		}
		if got := impl.VecText(v); got != want {
			t.Errorf("VecText(%v) is %q", v, got)
		}
	}
}

func TestVecIsReadAsWritten(t *testing.T) {
	for _, v := range vecsOf(edges) {
		if !vecRight(v) {
			continue
		}
		if got, ok := impl.TextVec(impl.VecText(v)); !ok || got != v {
			t.Errorf("%v is read as %v, %v", v, got, ok)
		}
	}
}

func TestTextOfNoVec(t *testing.T) {
	for _, s := range []string{
		"", "/", "//", "///", "1", "1/2", "1/2/", "/1/2", "1//2", "1/2/3/", "/1/2/3", "1/2/3/4",
		"01/2/3", "1/02/3", "1/2/03", "00/0/0", "+1/2/3", "1/+2/3", "1/2/-3", "-0/0/0", "-1/2/3",
		" 1/2/3", "1 /2/3", "1/2/3 ", "1/ 2/3", "1/2/3\n", "1/2/3\x00", "1,2,3", "1 2 3", "a/b/c", "1/2/x",
		"1000001/0/0", "0/1000001/0", "0/0/1000001", "1000000000/0/0", "0/0/1000000001",
		"9223372036854775807/0/0", "0/9223372036854775808/0", "0/0/18446744073709551617",
		"1_0/0/0", "0x1/0/0", "1e3/0/0", "1.0/0/0", "١/٢/٣",
		strings.Repeat("1", 100000) + "/0/0", "0/0/" + strings.Repeat("0", 100000), strings.Repeat("/", 100000),
	} {
		if v, ok := impl.TextVec(s); ok || v != (impl.Vec{}) {
			t.Errorf("TextVec(%.40q) is %v, %v", s, v, ok)
		}
	}
}

func TestNumText(t *testing.T) {
	for _, n := range edges {
		want := ""
		if n >= 0 && n <= 1000000000 {
			want = fmt.Sprint(n)
		}
		if got := impl.NumText(n); got != want {
			t.Errorf("NumText(%d) is %q", n, got)
		}
	}
	for n, want := range map[int]string{0: "0", 7: "7", 10: "10", 99: "99", 100: "100", 1000000000: "1000000000"} {
		if got := impl.NumText(n); got != want {
			t.Errorf("NumText(%d) is %q", n, got)
		}
	}
}

func timeIsRead(t *testing.T, n int) {
	t.Helper()
	if got, ok := impl.TextNum(impl.NumText(n)); !ok || got != n {
		t.Errorf("the time %d is read as %d, %v", n, got, ok)
	}
}

func TestTimeIsReadAsWritten(t *testing.T) {
	for n := 0; n <= 2000; n++ {
		timeIsRead(t, n)
		timeIsRead(t, impl.MaxTime-n)
	}
	for n := 0; n <= impl.MaxTime; n += 99991 {
		timeIsRead(t, n)
	}
	for n := 10; n <= impl.MaxTime; n *= 10 {
		timeIsRead(t, n-1)
		timeIsRead(t, n)
	}
}

func TestTextOfNoTime(t *testing.T) {
	for _, s := range []string{
		"", " ", "00", "01", "007", "+0", "-0", "+1", "-1", "-", "+", " 1", "1 ", "1 2", "1\n", "\n", "\x00", "1\x00",
		"a", "1a", "a1", "0x10", "1_000", "1e3", "1.0", "1/2", "/", "٣", "\xff",
		"1000000001", "1000000010", "9999999999", "10000000000", "-1000000000",
		"4294967296", "4294967297", "9223372036854775807", "9223372036854775808", "-9223372036854775808",
		"18446744073709551616", "18446744073709551617", "0000000001", "01000000000",
		strings.Repeat("1", 100000), strings.Repeat("0", 100000), strings.Repeat("9", 40), "1" + strings.Repeat("0", 64),
	} {
		if n, ok := impl.TextNum(s); ok || n != 0 {
			t.Errorf("TextNum(%.40q) is %d, %v", s, n, ok)
		}
	}
}

var numForm = regexp.MustCompile(`^(0|[1-9][0-9]{0,8}|1000000000)$`)
var amountForm = regexp.MustCompile(`^(0|[1-9][0-9]{0,5}|1000000)$`)

func formVec(s string) (impl.Vec, bool) {
	l := strings.Split(s, "/")
	if len(l) != 3 || !amountForm.MatchString(l[0]) || !amountForm.MatchString(l[1]) || !amountForm.MatchString(l[2]) {
		return impl.Vec{}, false
	}
	a, _ := strconv.Atoi(l[0])
	b, _ := strconv.Atoi(l[1])
	c, _ := strconv.Atoi(l[2])
	return impl.Vec{A: a, B: b, C: c}, true
}

// everyText calls f with all texts of up to n bytes out of the alphabet.
func everyText(alphabet string, n int, f func(string)) {
	var grow func(string)
	grow = func(s string) {
		f(s)
		if len(s) == n {
			return
		}
		for i := range len(alphabet) {
			grow(s + alphabet[i:i+1])
		}
	}
	grow("")
}

func TestEveryShortTextIsReadByItsForm(t *testing.T) {
	everyText("01/ -+\n\xff", 6, func(s string) {
		v, right := formVec(s)
		if got, ok := impl.TextVec(s); got != v || ok != right {
			t.Errorf("TextVec(%q) is %v, %v", s, got, ok)
		}
		n, right := 0, numForm.MatchString(s)
		if right {
			n, _ = strconv.Atoi(s)
		}
		if got, ok := impl.TextNum(s); got != n || ok != right {
			t.Errorf("TextNum(%q) is %v, %v", s, got, ok)
		}
	})
}

func sameTexts(a, b []string) bool {
	if len(a) != len(b) {
		return false
	}
	for i := range a {
		if a[i] != b[i] {
			return false
		}
	}
	return true
}

func TestPartsByHand(t *testing.T) {
	for _, c := range []struct {
		s    string
		b    byte
		want []string
	}{
		{"", ' ', []string{""}},
		{" ", ' ', []string{"", ""}},
		{"  ", ' ', []string{"", "", ""}},
		{"a", ' ', []string{"a"}},
		{"a b c", ' ', []string{"a", "b", "c"}},
		{" a  b ", ' ', []string{"", "a", "", "b", ""}},
		{"1/2/3", '/', []string{"1", "2", "3"}},
		{"1/2/3", ' ', []string{"1/2/3"}},
		{"one\ntwo\n", '\n', []string{"one", "two", ""}},
		{"a\x00b", 0, []string{"a", "b"}},
		{"a\xffb\xff", 0xff, []string{"a", "b", ""}},
		{"é", 0xa9, []string{"\xc3", ""}},
		{"é", 0xc3, []string{"", "\xa9"}},
		{"é", 0xe9, []string{"é"}},
		{"\u0080", 0x80, []string{"\xc2", ""}},
	} {
		if got := impl.Parts(c.s, c.b); !sameTexts(got, c.want) {
			t.Errorf("Parts(%q, %d) is %q", c.s, c.b, got)
		}
	}
}

func piecesMakeTheText(t *testing.T, s string, b byte) {
	t.Helper()
	pieces := impl.Parts(s, b)
	between := string([]byte{b})
	if len(pieces) != strings.Count(s, between)+1 || strings.Join(pieces, between) != s {
		t.Errorf("Parts(%.40q, %d) is %.80q", s, b, pieces)
	}
	for _, piece := range pieces {
		if strings.Contains(piece, between) {
			t.Errorf("Parts(%.40q, %d) has the piece %.40q", s, b, piece)
		}
	}
}

func TestPiecesMakeTheText(t *testing.T) {
	for _, b := range []byte{' ', 'a', 0, 0xff} {
		everyText(" a\x00\xff", 6, func(s string) { piecesMakeTheText(t, s, b) })
	}
	var all []byte
	for b := range 256 {
		all = append(all, byte(b))
	}
	for b := range 256 {
		piecesMakeTheText(t, string(all)+"äöü €\U0001F600"+string(all), byte(b))
	}
	piecesMakeTheText(t, strings.Repeat("ab ", 100000), ' ')
}

func TestPiecesAreNewMemory(t *testing.T) {
	s := strings.Repeat("some text ", 3)
	first := uintptr(unsafe.Pointer(unsafe.StringData(s)))
	for _, b := range []byte{' ', 'x', '/'} {
		for _, piece := range impl.Parts(s, b) {
			at := uintptr(unsafe.Pointer(unsafe.StringData(piece)))
			if piece != "" && first <= at && at < first+uintptr(len(s)) {
				t.Errorf("the piece %q lies in the memory of its text", piece)
			}
		}
	}
}

func TestPiecesAreKeptByNobody(t *testing.T) {
	once := impl.Parts("a b", ' ')
	once[0] = "changed"
	if again := impl.Parts("a b", ' '); !sameTexts(again, []string{"a", "b"}) {
		t.Errorf("the second answer is %q", again)
	}
}
