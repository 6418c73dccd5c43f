package tests

import (
	"bytes"
	"fmt"
	"math"
	"math/rand"
	"slices"
	"strconv"
	"strings"
	"testing"

	"loop.example/g00454/impl"
)

// recordRight is what the document says of RecordOk, with its numbers, byte by byte.
func recordRight(s string) bool {
	for i := range len(s) {
		if s[i] == 10 {
			return false
		}
	}
	return len(s) >= 1 && len(s) <= 200
}

// recordsOf is what the document says of ReadRecords: the lines are parted first, where the program goes from left to right.
func recordsOf(b []byte) ([]string, int) {
	var texts []string
	n := 0
	lines := strings.Split(string(b), "\n")
	// What is behind the last byte 10 isn't whole.
	for i, l := range lines[:len(lines)-1] {
		number, text, parted := strings.Cut(l, " ")
		if !parted || number != strconv.Itoa(i) || !recordRight(text) {
			break
		}
		texts = append(texts, text)
		n += len(l) + 1
	}
	return texts, n
}

func journalRight(j impl.Journal) bool {
	texts, n := recordsOf(j.Bytes)
	return n == len(j.Bytes) && len(texts) == j.Count && n <= 40000 && j.Synced >= 0 && j.Synced <= n
}

func openOf(b []byte) impl.Journal {
	if len(b) > 40000 {
		return impl.Journal{}
	}
	texts, n := recordsOf(b)
	return impl.Journal{Bytes: b[:n], Synced: n, Count: len(texts)}
}

func addOf(j impl.Journal, s string) (impl.Journal, int) {
	if !journalRight(j) || !recordRight(s) {
		return impl.Journal{}, 1
	}
	text := fmt.Sprintf("%s%d %s\n", j.Bytes, j.Count, s)
	if len(text) > 40000 {
		return impl.Journal{}, 2
	}
	return impl.Journal{Bytes: []byte(text), Synced: j.Synced, Count: j.Count + 1}, 0
}

func syncOf(j impl.Journal) impl.Journal {
	if !journalRight(j) {
		return impl.Journal{}
	}
	return impl.Journal{Bytes: j.Bytes, Synced: len(j.Bytes), Count: j.Count}
}

// crashOf keeps one byte behind the other.
func crashOf(j impl.Journal, keep int) []byte {
	if !journalRight(j) {
		return nil
	}
	end := j.Synced
	for ; keep > 0 && end < len(j.Bytes); keep-- {
		end++
	}
	return j.Bytes[:end]
}

func sameJournal(a, b impl.Journal) bool {
	return bytes.Equal(a.Bytes, b.Bytes) && a.Synced == b.Synced && a.Count == b.Count
}

func journalText(j impl.Journal) string {
	return fmt.Sprintf("%.80q.. (%d bytes), synced %d, count %d", j.Bytes, len(j.Bytes), j.Synced, j.Count)
}

func journalCopy(j impl.Journal) impl.Journal {
	return impl.Journal{Bytes: slices.Clone(j.Bytes), Synced: j.Synced, Count: j.Count}
}

// rows writes the texts as records, numbered from the first number on.
func rows(first int, texts ...string) []byte {
	var b []byte
	for i, text := range texts {
		b = fmt.Appendf(b, "%d %s\n", first+i, text)
	}
	return b
}

// repeated has n texts, each of so many bytes.
func repeated(n, size int) []string {
	return slices.Repeat([]string{strings.Repeat("x", size)}, n)
}

// journalOf has these records; so many of its bytes are synced.
func journalOf(synced int, texts ...string) impl.Journal {
	return impl.Journal{Bytes: rows(0, texts...), Synced: synced, Count: len(texts)}
}

// filled is a journal of just so many bytes, 37700 of them in its first 190 records, those behind as long as they can be.
func filled(size int) impl.Journal {
	texts := repeated(190, 194)
	for left := size - 37700; left > 0; {
		record := min(left, 205)
		// The least record has 6 bytes: never less is left for the last one.
		if behind := left - record; behind > 0 && behind < 6 {
			record -= 6
		}
		texts = append(texts, strings.Repeat("y", record-len("190 \n")))
		left -= record
	}
	return journalOf(0, texts...)
}

// someTexts has right texts of all kinds: of one byte and of the most, with blanks, digits, and bytes that are no letters.
func someTexts() []string {
	return []string{
		"a", "0", " ", "\x00", "\x0b", "\r", "\xff", "go 5", "lic 1/2/3", "submit 1 2 3 4/5/6 0/0/0 7 8",
		" a", "a ", "  ", " a  b ", "0 a", "1 a", "10", "00", "01 ", "-1", "äöü €\U0001F600", "\xc3", "a\x00b", "a\tb", "\\n",
		strings.Repeat("x", 199), strings.Repeat("x", 200), strings.Repeat(" ", 200), strings.Repeat("é", 100), strings.Repeat("\x00", 200),
	}
}

func drawnText(draw *rand.Rand) string {
	if draw.Intn(3) == 0 {
		l := someTexts()
		return l[draw.Intn(len(l))]
	}
	s := make([]byte, 1+draw.Intn(12))
	for i := range s {
		// One above 10 for all from there on: the text has every byte but 10.
		if s[i] = byte(draw.Intn(255)); s[i] >= 10 {
			s[i]++
		}
	}
	return string(s)
}

func drawnTexts(draw *rand.Rand, most int) []string {
	var l []string
	for range draw.Intn(most + 1) {
		l = append(l, drawnText(draw))
	}
	return l
}

func drawnJournal(draw *rand.Rand) impl.Journal {
	j := journalOf(0, drawnTexts(draw, 14)...)
	j.Synced = draw.Intn(len(j.Bytes) + 1)
	return j
}

// changedBytes cuts, takes out, puts in or writes over some of the bytes.
func changedBytes(draw *rand.Rand, b []byte) []byte {
	b = slices.Clone(b)
	telling := []byte("\n\n 0123 9a\x00\xff")
	for range 1 + draw.Intn(2) {
		i, x := draw.Intn(len(b)+1), telling[draw.Intn(len(telling))]
		switch {
		case i == len(b) || draw.Intn(4) == 0:
			b = slices.Insert(b, i, x)
		case draw.Intn(3) == 0:
			b = slices.Delete(b, i, i+1)
		case draw.Intn(3) == 0:
			b = b[:i]
		default:
			b[i] = x
		}
	}
	return b
}

// someKeeps has the edges of how much a crash may keep of so many bytes.
func someKeeps(n int) []int {
	return []int{math.MinInt, math.MinInt + 1, -n, -2, -1, 0, 1, n / 2, n - 1, n, n + 1, n + 2, 40000, 40001, math.MaxInt - 1, math.MaxInt}
}

// wrongJournals has journals that are not right, each for one cause.
func wrongJournals() map[string]impl.Journal {
	long := filled(40000)
	long.Bytes = append(long.Bytes, rows(long.Count, "a")...)
	long.Count++
	more := filled(39999)
	more.Bytes = slices.Insert(more.Bytes, len(more.Bytes)-1, 'z', 'z')
	return map[string]impl.Journal{
		"Count one too few":            {Bytes: []byte("0 a\n1 b\n"), Count: 1},
		"Count one too many":           {Bytes: []byte("0 a\n1 b\n"), Count: 3},
		"Count without bytes":          {Count: 1},
		"bytes without Count":          {Bytes: []byte("0 a\n")},
		"Count below 0":                {Count: -1},
		"the least Count":              {Bytes: []byte("0 a\n"), Count: math.MinInt},
		"the most Count":               {Bytes: []byte("0 a\n"), Count: math.MaxInt},
		"Synced below 0":               {Bytes: []byte("0 a\n"), Synced: -1, Count: 1},
		"Synced one above":             {Bytes: []byte("0 a\n"), Synced: 5, Count: 1},
		"Synced below 0, no bytes":     {Synced: -1},
		"Synced one above, no bytes":   {Synced: 1},
		"the least Synced":             {Bytes: []byte("0 a\n"), Synced: math.MinInt, Count: 1},
		"the most Synced":              {Bytes: []byte("0 a\n"), Synced: math.MaxInt, Count: 1},
		"more than MaxBytes":           long,
		"one byte more than MaxBytes":  more,
		"a first number of 1":          {Bytes: []byte("1 a\n"), Count: 1},
		"a number twice":               {Bytes: []byte("0 a\n0 b\n"), Count: 2},
		"a number left out":            {Bytes: []byte("0 a\n2 b\n"), Count: 2},
		"a number with '0' in front":   {Bytes: []byte("0 a\n01 b\n"), Count: 2},
		"no number":                    {Bytes: []byte("0 a\n b\n"), Count: 2},
		"no blank":                     {Bytes: []byte("0 a\n1\n"), Count: 2},
		"no text":                      {Bytes: []byte("0 a\n1 \n"), Count: 2},
		"a last record without its 10": {Bytes: []byte("0 a\n1 b"), Count: 2},
		"a text too long":              journalOf(0, "a", strings.Repeat("x", 201)),
		"bytes behind the last record": {Bytes: []byte("0 a\n1 b\n2"), Count: 2},
		"a blank behind the last":      {Bytes: []byte("0 a\n1 b\n "), Count: 2},
		"a byte 10 behind the last":    {Bytes: []byte("0 a\n1 b\n\n"), Count: 2},
		"a byte 0 behind the last":     {Bytes: []byte("0 a\n1 b\n\x00"), Count: 2},
		"nothing but a byte 10":        {Bytes: []byte("\n")},
		"a byte 10 ahead of the first": {Bytes: []byte("\n0 a\n"), Count: 1},
	}
}

func TestJournalLimits(t *testing.T) {
	if impl.MaxBytes != 40000 || impl.MaxRecord != 200 {
		t.Errorf("MaxBytes %d, MaxRecord %d", impl.MaxBytes, impl.MaxRecord)
	}
}

func TestRecordOk(t *testing.T) {
	for _, n := range []int{0, 1, 2, 9, 10, 11, 199, 200, 201, 202, 400, 100000} {
		for _, x := range []string{"a", "0", " ", "\x00", "\xff"} {
			if got := impl.RecordOk(strings.Repeat(x, n)); got != (n >= 1 && n <= 200) {
				t.Errorf("RecordOk of %d times %q is %v", n, x, got)
			}
		}
	}
	for b := range 256 {
		for _, s := range []string{string([]byte{byte(b)}), "a" + string([]byte{byte(b)}), string([]byte{byte(b)}) + "a", "a" + string([]byte{byte(b)}) + "a"} {
			if got := impl.RecordOk(s); got != (b != 10) {
				t.Errorf("RecordOk(%q) is %v", s, got)
			}
		}
	}
	for i := range 200 {
		s := []byte(strings.Repeat("a", 200))
		s[i] = 10
		if impl.RecordOk(string(s)) {
			t.Errorf("RecordOk is true of a text with 10 at %d", i)
		}
	}
	for _, s := range someTexts() {
		if !impl.RecordOk(s) {
			t.Errorf("RecordOk(%q) is false", s)
		}
	}
	// Bytes count, not letters.
	for s, want := range map[string]bool{strings.Repeat("é", 100): true, strings.Repeat("é", 100) + "a": false, strings.Repeat("€", 67): false, strings.Repeat("€", 66): true} {
		if got := impl.RecordOk(s); got != want {
			t.Errorf("RecordOk of %d bytes is %v", len(s), got)
		}
	}
}

func readIsRight(t *testing.T, b []byte) {
	t.Helper()
	texts, n := impl.ReadRecords(b)
	want, size := recordsOf(b)
	if !sameTexts(texts, want) || n != size {
		t.Errorf("ReadRecords(%.80q) is %.80q, %d, not %.80q, %d", b, texts, n, want, size)
	}
}

func TestReadRecordsByHand(t *testing.T) {
	full := strings.Repeat("x", 200)
	for _, c := range []struct {
		b    string
		want []string
		n    int
	}{
		{"", nil, 0},
		{"0 a\n", []string{"a"}, 4},
		{"0 a\n1 b c\n2 3 d\n", []string{"a", "b c", "3 d"}, 16},
		{"0  \n1  a\n2 a \n", []string{" ", " a", "a "}, 14},
		{"0 0\n1 1\n2 2 2\n", []string{"0", "1", "2 2"}, 14},
		{"0 \x00\n1 \xff\xfe\n2 \r\n", []string{"\x00", "\xff\xfe", "\r"}, 13},
		{"0 " + full + "\n1 b\n", []string{full, "b"}, 207},
		// A number that is not the next one.
		{"1 a\n", nil, 0},
		{"0 a\n0 b\n1 c\n", []string{"a"}, 4},
		{"0 a\n2 b\n1 c\n", []string{"a"}, 4},
		{"0 a\n1 b c\n3 d\n", []string{"a", "b c"}, 10},
		{"0 a\n10 b\n", []string{"a"}, 4},
		// One that has '0' in front, a sign, a blank, or that is no number, or is missing.
		{"00 a\n", nil, 0},
		{"0 a\n01 b\n", []string{"a"}, 4},
		{"0 a\n+1 b\n", []string{"a"}, 4},
		{"-0 a\n", nil, 0},
		{" 0 a\n", nil, 0},
		{"0 a\n 1 b\n", []string{"a"}, 4},
		{"0 a\nx b\n", []string{"a"}, 4},
		{"0 a\n b\n", []string{"a"}, 4},
		{"0 a\nb\n", []string{"a"}, 4},
		{" a\n", nil, 0},
		{"٠ a\n", nil, 0},
		{"18446744073709551616 a\n", nil, 0},
		// A record without its blank, its text, its byte 10.
		{"0\n", nil, 0},
		{"0a\n", nil, 0},
		{"0\ta\n", nil, 0},
		{"0 a\n1\n2 c\n", []string{"a"}, 4},
		{"0 a\n1b\n", []string{"a"}, 4},
		{"0 \n", nil, 0},
		{"0 a\n1 \n2 c\n", []string{"a"}, 4},
		{"0 a", nil, 0},
		{"0 a\r", nil, 0},
		{"0 a\n1 b", []string{"a"}, 4},
		{"0 a\n1 ", []string{"a"}, 4},
		{"0 a\n1", []string{"a"}, 4},
		{"0", nil, 0},
		{"0 ", nil, 0},
		// A text too long.
		{"0 " + full + "x\n1 b\n", nil, 0},
		{"0 a\n1 " + full + "x\n2 c\n", []string{"a"}, 4},
		{"0 a\n1 " + full, []string{"a"}, 4},
		// Bytes behind the last whole record.
		{"0 a\n1 b\n\n", []string{"a", "b"}, 8},
		{"0 a\n1 b\n\n2 c\n", []string{"a", "b"}, 8},
		{"0 a\n1 b\n \n", []string{"a", "b"}, 8},
		{"0 a\n1 b\n\x00\x00", []string{"a", "b"}, 8},
		{"0 a\n1 b\nover\n2 c\n", []string{"a", "b"}, 8},
		{"\n", nil, 0},
		{"\n0 a\n", nil, 0},
		{"\x000 a\n", nil, 0},
		{"a", nil, 0},
		{" ", nil, 0},
	} {
		if texts, n := impl.ReadRecords([]byte(c.b)); !sameTexts(texts, c.want) || n != c.n {
			t.Errorf("ReadRecords(%.80q) is %.80q, %d", c.b, texts, n)
		}
		readIsRight(t, []byte(c.b))
	}
	if texts, n := impl.ReadRecords(nil); len(texts) != 0 || n != 0 {
		t.Errorf("ReadRecords of nil is %q, %d", texts, n)
	}
}

func TestReadRecordsOfEveryShortText(t *testing.T) {
	everyText("01 a\n", 8, func(s string) { readIsRight(t, []byte(s)) })
	// Behind some records the number has two digits.
	ahead := string(rows(0, repeated(10, 1)...))
	everyText("019 \n", 6, func(s string) { readIsRight(t, []byte(ahead+s)) })
}

func TestReadRecordsOfManyRecords(t *testing.T) {
	// More than MaxBytes bytes: the chapter asks for no limit here.
	texts := repeated(10012, 3)
	b := rows(0, texts...)
	for _, n := range []int{1, 2, 8, 9, 10, 11, 12, 98, 99, 100, 101, 998, 999, 1000, 1001, 9999, 10000, 10001, 10012} {
		whole := rows(0, texts[:n]...)
		if got, size := impl.ReadRecords(whole); !sameTexts(got, texts[:n]) || size != len(whole) {
			t.Errorf("of %d records %d are read, %d of %d bytes", n, len(got), size, len(whole))
		}
		// The next one has a number too low, too high, with '0' in front, with fewer digits.
		for _, number := range []string{fmt.Sprint(n - 1), fmt.Sprint(n + 1), "0" + fmt.Sprint(n), fmt.Sprint(n)[1:], fmt.Sprint(n) + "0", fmt.Sprint(10 * n), ""} {
			bad := slices.Concat(whole, []byte(number+" abc\n"), b[len(whole):])
			if got, size := impl.ReadRecords(bad); len(got) != n || size != len(whole) {
				t.Errorf("%d records and one numbered %q: %d are read, %d of %d bytes", n, number, len(got), size, len(whole))
			}
		}
	}
	for _, b := range []string{strings.Repeat("x", 1000000), strings.Repeat("0", 1000000), strings.Repeat("\n", 1000000), "0 " + strings.Repeat("x", 1000000), "0 " + strings.Repeat("x", 1000000) + "\n"} {
		if got, size := impl.ReadRecords([]byte(b)); len(got) != 0 || size != 0 {
			t.Errorf("ReadRecords(%.20q) is %.80q, %d", b, got, size)
		}
	}
}

func TestReadRecordsOfChangedBytes(t *testing.T) {
	draw := rand.New(rand.NewSource(71))
	whole, torn := 0, 0
	for range 30000 {
		b := rows(0, drawnTexts(draw, 14)...)
		if draw.Intn(6) > 0 {
			b = changedBytes(draw, b)
		}
		readIsRight(t, b)
		if _, n := impl.ReadRecords(b); n == len(b) {
			whole++
		} else if n > 0 {
			torn++
		}
	}
	if whole < 3000 || torn < 3000 {
		t.Errorf("%d whole, %d torn: too few to tell", whole, torn)
	}
}

func TestJournalOk(t *testing.T) {
	for name, j := range wrongJournals() {
		if journalRight(j) || impl.JournalOk(j) {
			t.Errorf("%s: JournalOk is true of %s", name, journalText(j))
		}
	}
	for name, j := range map[string]impl.Journal{
		"no bytes at all":        {},
		"an empty list":          {Bytes: []byte{}},
		"nothing synced":         journalOf(0, "a", "b c"),
		"all synced":             journalOf(10, "a", "b c"),
		"one byte not synced":    journalOf(9, "a", "b c"),
		"one record synced":      journalOf(4, "a", "b c"),
		"half a record synced":   journalOf(5, "a", "b c"),
		"texts like records":     journalOf(3, "0 a", "1 b", "2", " 3"),
		"all kinds of texts":     journalOf(1, someTexts()...),
		"9 records":              journalOf(0, repeated(9, 1)...),
		"10 records":             journalOf(0, repeated(10, 1)...),
		"11 records":             journalOf(0, repeated(11, 1)...),
		"100 records":            journalOf(0, repeated(100, 1)...),
		"101 records":            journalOf(0, repeated(101, 1)...),
		"texts of the most":      journalOf(0, repeated(150, 200)...),
		"MaxBytes less one":      filled(39999),
		"MaxBytes":               filled(40000),
		"the most small records": journalOf(0, repeated(5872, 1)...),
	} {
		if !journalRight(j) || !impl.JournalOk(j) {
			t.Errorf("%s: JournalOk is false of %s", name, journalText(j))
		}
	}
	if n := len(filled(40000).Bytes); n != 40000 {
		t.Errorf("filled has %d bytes", n)
	}
}

func TestJournalOkOfChangedJournals(t *testing.T) {
	draw := rand.New(rand.NewSource(72))
	right, wrong := 0, 0
	for range 20000 {
		j := drawnJournal(draw)
		switch draw.Intn(5) {
		case 0:
			j.Bytes = changedBytes(draw, j.Bytes)
		case 1:
			j.Count += draw.Intn(5) - 2
		case 2:
			j.Synced = len(j.Bytes) + draw.Intn(5) - 2
		case 3:
			j.Synced = draw.Intn(5) - 2
		}
		got := impl.JournalOk(j)
		if got != journalRight(j) {
			t.Errorf("JournalOk of %s is %v", journalText(j), got)
		}
		if got {
			right++
		} else {
			wrong++
		}
	}
	if right < 5000 || wrong < 5000 {
		t.Errorf("%d right, %d wrong: too few to tell", right, wrong)
	}
}

func TestJournalOpenByHand(t *testing.T) {
	full, small := filled(40000).Bytes, rows(0, repeated(5872, 1)...)
	for name, c := range map[string]struct {
		b             []byte
		size, records int
	}{
		"nil":                            {nil, 0, 0},
		"no bytes":                       {[]byte{}, 0, 0},
		"one record":                     {[]byte("0 a\n"), 4, 1},
		"two records":                    {[]byte("0 a\n1 b c\n"), 10, 2},
		"torn in the text":               {[]byte("0 go 5\n1 l"), 7, 1},
		"torn ahead of the text":         {[]byte("0 go 5\n1 "), 7, 1},
		"torn ahead of the byte 10":      {[]byte("0 go 5\n1 lic 1/2/3"), 7, 1},
		"the first torn":                 {[]byte("0 go 5"), 0, 0},
		"no journal":                     {[]byte("something else\n"), 0, 0},
		"a number left out":              {[]byte("0 a\n2 b\n"), 4, 1},
		"a text too long":                {rows(0, "a", strings.Repeat("x", 201), "b"), 4, 1},
		"9 and 10":                       {rows(0, repeated(11, 2)...), 56, 11},
		"99 and 100":                     {rows(0, repeated(101, 1)...), 10*4 + 90*5 + 6, 101},
		"MaxBytes":                       {full, 40000, 202},
		"MaxBytes, the last torn":        {append(slices.Clone(full[:39999]), 'x'), 37700 + 11*205, 201},
		"MaxBytes, nothing right":        {bytes.Repeat([]byte("x"), 40000), 0, 0},
		"one more than MaxBytes":         {append(slices.Clone(full), '1'), 0, 0},
		"one more, nothing right":        {bytes.Repeat([]byte("x"), 40001), 0, 0},
		"few records, much behind":       {append([]byte("0 a\n"), make([]byte, 40000)...), 0, 0},
		"few records, just enough":       {append([]byte("0 a\n"), make([]byte, 39996)...), 4, 1},
		"small records":                  {small, len(small), 5872},
		"small records, one too many":    {append(slices.Clone(small), rows(5872, repeated(2000, 1)...)...), 0, 0},
		"a record more than MaxBytes is": {append(slices.Clone(full), rows(202, "a")...), 0, 0},
	} {
		want := impl.Journal{Bytes: c.b[:c.size], Synced: c.size, Count: c.records}
		got := impl.JournalOpen(c.b)
		if !sameJournal(got, want) || !sameJournal(got, openOf(c.b)) {
			t.Errorf("%s: JournalOpen of %d bytes is %s, not %s", name, len(c.b), journalText(got), journalText(want))
		}
	}
}

func TestJournalOpen(t *testing.T) {
	draw := rand.New(rand.NewSource(73))
	for range 20000 {
		b := rows(0, drawnTexts(draw, 14)...)
		if draw.Intn(4) > 0 {
			b = changedBytes(draw, b)
		}
		j := impl.JournalOpen(b)
		if !sameJournal(j, openOf(b)) || !impl.JournalOk(j) {
			t.Errorf("JournalOpen(%.80q) is %s", b, journalText(j))
		}
		if again := impl.JournalOpen(j.Bytes); !sameJournal(again, j) {
			t.Errorf("opened again, %s is %s", journalText(j), journalText(again))
		}
	}
}

func addIsRight(t *testing.T, j impl.Journal, s string) int {
	t.Helper()
	got, code := impl.JournalAdd(j, s)
	if want, right := addOf(j, s); code != right || !sameJournal(got, want) {
		t.Errorf("JournalAdd(%s, %.40q) is %s, %d, not %s, %d", journalText(j), s, journalText(got), code, journalText(want), right)
	}
	return code
}

// wrongTexts has texts that are no record's.
func wrongTexts() []string {
	return []string{"", "\n", "a\n", "\na", "a\nb", "\n\n", "0 a\n", strings.Repeat("x", 201), strings.Repeat(" ", 201), strings.Repeat("é", 101), strings.Repeat("x", 199) + "\n", strings.Repeat("x", 100000)}
}

func TestJournalAddByHand(t *testing.T) {
	full := strings.Repeat("x", 200)
	for _, c := range []struct {
		j    impl.Journal
		s    string
		want string
		sync int
	}{
		{impl.Journal{}, "go 5", "0 go 5\n", 0},
		{impl.Journal{}, "a", "0 a\n", 0},
		{impl.Journal{}, " ", "0  \n", 0},
		{impl.Journal{}, full, "0 " + full + "\n", 0},
		{journalOf(0, "a"), "1 b", "0 a\n1 1 b\n", 0},
		{journalOf(2, "a"), "b", "0 a\n1 b\n", 2},
		{journalOf(4, "a"), "b", "0 a\n1 b\n", 4},
		{journalOf(4, "a", "b"), "\x00\xff", "0 a\n1 b\n2 \x00\xff\n", 4},
		{journalOf(7, repeated(9, 1)...), "b", string(rows(0, repeated(9, 1)...)) + "9 b\n", 7},
		{journalOf(7, repeated(10, 1)...), "b", string(rows(0, repeated(10, 1)...)) + "10 b\n", 7},
		{journalOf(7, repeated(99, 1)...), "b", string(rows(0, repeated(99, 1)...)) + "99 b\n", 7},
		{journalOf(7, repeated(100, 1)...), "b", string(rows(0, repeated(100, 1)...)) + "100 b\n", 7},
	} {
		got, code := impl.JournalAdd(c.j, c.s)
		if code != 0 || string(got.Bytes) != c.want || got.Synced != c.sync || got.Count != c.j.Count+1 {
			t.Errorf("JournalAdd(%s, %.40q) is %s, %d", journalText(c.j), c.s, journalText(got), code)
		}
		addIsRight(t, c.j, c.s)
	}
}

func TestJournalAddOfWrongArguments(t *testing.T) {
	nothing := func(j impl.Journal, s string, want int) {
		t.Helper()
		if got, code := impl.JournalAdd(j, s); code != want || !sameJournal(got, impl.Journal{}) {
			t.Errorf("JournalAdd(%s, %.40q) is %s, %d", journalText(j), s, journalText(got), code)
		}
	}
	// A journal that is full has no room for any of them: the code that is named first counts.
	full := filled(40000)
	for _, s := range wrongTexts() {
		nothing(impl.Journal{}, s, 1)
		nothing(journalOf(4, "a", "b"), s, 1)
		nothing(full, s, 1)
	}
	for _, j := range wrongJournals() {
		for _, s := range []string{"a", "go 5", strings.Repeat("x", 200), "", "a\nb", strings.Repeat("x", 201)} {
			nothing(j, s, 1)
		}
	}
	wrongAndFull := journalCopy(full)
	wrongAndFull.Count++
	nothing(wrongAndFull, "a", 1)
	wrongAndFull.Count, wrongAndFull.Synced = full.Count, 40001
	nothing(wrongAndFull, "a", 1)
	nothing(full, "a", 2)
	nothing(full, strings.Repeat("x", 200), 2)
}

func TestJournalAddUpToMaxBytes(t *testing.T) {
	// All numbers behind have three digits: a text of n bytes needs n and 5.
	for _, room := range []int{0, 1, 5, 6, 7, 100, 204, 205, 206} {
		j := filled(40000 - room)
		if len(j.Bytes) != 40000-room || !impl.JournalOk(j) {
			t.Fatalf("filled is %s", journalText(j))
		}
		for _, size := range []int{1, 2, 95, 96, 199, 200} {
			want := 0
			if size+5 > room {
				want = 2
			}
			if code := addIsRight(t, j, strings.Repeat("s", size)); code != want {
				t.Errorf("a text of %d bytes where %d are left: code %d", size, room, code)
			}
		}
	}
	// Behind 5871 of the least records 13 bytes are left, behind one more 6: a number of four digits needs 7.
	for n, want := range map[int]int{9: 0, 10: 0, 99: 0, 100: 0, 5871: 0, 5872: 2} {
		if code := addIsRight(t, journalOf(0, repeated(n, 1)...), "a"); code != want {
			t.Errorf("behind %d records: code %d", n, code)
		}
	}
	var j impl.Journal
	added := 0
	for code := 0; code == 0; added++ {
		next, c := impl.JournalAdd(j, strings.Repeat("r", 196))
		if c == 0 {
			j = next
		}
		code = c
	}
	if added != 200 || len(j.Bytes) != len(rows(0, repeated(199, 196)...)) || !impl.JournalOk(j) {
		t.Errorf("%d were tried: %s", added, journalText(j))
	}
}

func TestJournalAdd(t *testing.T) {
	draw := rand.New(rand.NewSource(74))
	for range 10000 {
		j, s := drawnJournal(draw), drawnText(draw)
		if draw.Intn(5) == 0 {
			j.Bytes = changedBytes(draw, j.Bytes)
		}
		if draw.Intn(9) == 0 {
			s = wrongTexts()[draw.Intn(len(wrongTexts()))]
		}
		addIsRight(t, j, s)
	}
}

// A part of P2: what is added is read at the end, behind all that was there.
func TestWhatIsAddedIsReadAtTheEnd(t *testing.T) {
	draw := rand.New(rand.NewSource(75))
	for range 400 {
		var j impl.Journal
		var all []string
		for range draw.Intn(40) {
			s := drawnText(draw)
			next, code := impl.JournalAdd(j, s)
			elder, _ := impl.ReadRecords(j.Bytes)
			texts, n := impl.ReadRecords(next.Bytes)
			all = append(all, s)
			if code != 0 || !sameTexts(elder, all[:len(all)-1]) || !sameTexts(texts, all) || n != len(next.Bytes) {
				t.Fatalf("behind %q added to %s: %d, %.80q, %d bytes of %d", s, journalText(j), code, texts, n, len(next.Bytes))
			}
			if !bytes.HasPrefix(next.Bytes, j.Bytes) || next.Synced != j.Synced || next.Count != len(all) || !impl.JournalOk(next) {
				t.Fatalf("%s has become %s", journalText(j), journalText(next))
			}
			j = next
			if draw.Intn(4) == 0 {
				j = impl.JournalSync(j)
			}
		}
	}
}

func TestJournalSync(t *testing.T) {
	draw := rand.New(rand.NewSource(76))
	for range 10000 {
		j := drawnJournal(draw)
		if draw.Intn(3) == 0 {
			j.Bytes = changedBytes(draw, j.Bytes)
		}
		got := impl.JournalSync(j)
		if !sameJournal(got, syncOf(j)) || !sameJournal(impl.JournalSync(got), got) && journalRight(j) {
			t.Errorf("JournalSync of %s is %s", journalText(j), journalText(got))
		}
	}
	for _, j := range []impl.Journal{{}, journalOf(0, "a", "b c"), journalOf(5, "a", "b c"), journalOf(10, "a", "b c"), filled(40000)} {
		want := impl.Journal{Bytes: j.Bytes, Synced: len(j.Bytes), Count: j.Count}
		if got := impl.JournalSync(j); !sameJournal(got, want) || !impl.JournalOk(got) {
			t.Errorf("JournalSync of %s is %s", journalText(j), journalText(got))
		}
	}
	for name, j := range wrongJournals() {
		if got := impl.JournalSync(j); !sameJournal(got, impl.Journal{}) {
			t.Errorf("%s: JournalSync is %s", name, journalText(got))
		}
	}
}

func TestJournalCrashByHand(t *testing.T) {
	two := "0 a\n1 b c\n"
	for _, c := range []struct {
		synced, keep int
		want         string
	}{
		{0, 0, ""}, {0, 1, "0"}, {0, 4, "0 a\n"}, {0, 5, "0 a\n1"}, {0, 9, "0 a\n1 b c"}, {0, 10, two}, {0, 11, two},
		{4, 0, "0 a\n"}, {4, -1, "0 a\n"}, {4, 1, "0 a\n1"}, {4, 5, "0 a\n1 b c"}, {4, 6, two}, {4, 7, two}, {4, 10, two},
		{5, 0, "0 a\n1"}, {5, 2, "0 a\n1 b"}, {9, 0, "0 a\n1 b c"}, {9, 1, two}, {9, 2, two},
		{10, 0, two}, {10, -1, two}, {10, 1, two}, {10, -11, two},
		{0, math.MinInt, ""}, {0, math.MaxInt, two}, {4, math.MinInt, "0 a\n"}, {4, math.MaxInt, two}, {4, math.MaxInt - 3, two},
		{10, math.MinInt, two}, {10, math.MaxInt, two},
	} {
		if got := impl.JournalCrash(journalOf(c.synced, "a", "b c"), c.keep); string(got) != c.want {
			t.Errorf("of %d synced bytes a crash keeps %d: %q", c.synced, c.keep, got)
		}
	}
	for _, keep := range someKeeps(0) {
		if got := impl.JournalCrash(impl.Journal{}, keep); len(got) != 0 {
			t.Errorf("a crash keeps %d of nothing: %q", keep, got)
		}
	}
	for name, j := range wrongJournals() {
		for _, keep := range someKeeps(len(j.Bytes)) {
			if got := impl.JournalCrash(j, keep); len(got) != 0 {
				t.Errorf("%s: JournalCrash with %d is %.40q", name, keep, got)
			}
		}
	}
}

func TestJournalCrash(t *testing.T) {
	draw := rand.New(rand.NewSource(77))
	for range 2000 {
		j := drawnJournal(draw)
		if draw.Intn(4) == 0 {
			j.Bytes = changedBytes(draw, j.Bytes)
		}
		keeps := someKeeps(len(j.Bytes) - j.Synced)
		for keep := -2; keep <= min(len(j.Bytes), 60); keep++ {
			keeps = append(keeps, keep)
		}
		for _, keep := range keeps {
			// The words are gone through byte by byte, so the most is put in the place of what is more than all.
			want := crashOf(j, min(keep, 100000))
			if got := impl.JournalCrash(j, keep); !bytes.Equal(got, want) {
				t.Errorf("JournalCrash(%s, %d) is %.80q, not %.80q", journalText(j), keep, got, want)
			}
		}
	}
	j := filled(40000)
	for _, j.Synced = range []int{0, 1, 20000, 39999, 40000} {
		for _, keep := range append(someKeeps(40000-j.Synced), 3, 197, 20000) {
			if got, want := impl.JournalCrash(j, keep), crashOf(j, min(keep, 100000)); !bytes.Equal(got, want) {
				t.Errorf("of %d synced bytes a crash keeps %d: %d bytes, not %d", j.Synced, keep, len(got), len(want))
			}
		}
	}
}

// play is a journal that was added to and synced, with all texts, the bytes behind each, and how many texts were synced.
type play struct {
	journal impl.Journal
	texts   []string
	ends    []int
	synced  int
}

func drawnPlay(t *testing.T, draw *rand.Rand) play {
	t.Helper()
	var p play
	for range 1 + draw.Intn(25) {
		if draw.Intn(5) == 0 {
			p.journal, p.synced = impl.JournalSync(p.journal), len(p.texts)
			continue
		}
		s := drawnText(draw)
		j, code := impl.JournalAdd(p.journal, s)
		if code != 0 {
			t.Fatalf("JournalAdd(%s, %q) has the code %d", journalText(p.journal), s, code)
		}
		p.journal, p.texts, p.ends = j, append(p.texts, s), append(p.ends, len(j.Bytes))
	}
	return p
}

// crashIsFound holds what is found behind a crash against what was added: the records whose last byte was kept, and no other.
func crashIsFound(t *testing.T, p play, keep int) int {
	t.Helper()
	b := impl.JournalCrash(p.journal, keep)
	found := impl.JournalOpen(b)
	texts, n := impl.ReadRecords(b)
	whole := 0
	for whole < len(p.ends) && p.ends[whole] <= len(b) {
		whole++
	}
	if whole < p.synced {
		t.Errorf("%d records were synced, but behind %d the disk has %d of %s", p.synced, keep, len(b), journalText(p.journal))
	}
	if len(texts) < p.synced || !sameTexts(texts, p.texts[:min(whole, len(p.texts))]) {
		t.Errorf("behind %d of %s: %.80q is found, %d were synced", keep, journalText(p.journal), texts, p.synced)
	}
	if !bytes.HasPrefix(p.journal.Bytes, b) || !bytes.HasPrefix(b, found.Bytes) || found.Count != whole || found.Synced != n || len(found.Bytes) != n || !impl.JournalOk(found) {
		t.Errorf("behind %d of %s: %s is found", keep, journalText(p.journal), journalText(found))
	}
	return whole
}

func TestWhatWasSyncedIsFoundBehindEveryCrash(t *testing.T) {
	draw := rand.New(rand.NewSource(78))
	lost := 0
	for range 300 {
		p := drawnPlay(t, draw)
		for keep := -2; keep <= len(p.journal.Bytes)+2; keep++ {
			if crashIsFound(t, p, keep) < len(p.texts) {
				lost++
			}
		}
		for _, keep := range someKeeps(len(p.journal.Bytes)) {
			crashIsFound(t, p, keep)
		}
		if all := impl.JournalSync(p.journal); !sameJournal(impl.JournalOpen(impl.JournalCrash(all, 0)), all) {
			t.Errorf("all of %s was synced, but is not found", journalText(p.journal))
		}
	}
	if lost < 10000 {
		t.Errorf("%d crashes lost anything: too few to tell", lost)
	}
}

// The record that is torn is lost and those behind it, and none ahead of it.
func TestACrashWithinARecordLosesJustThat(t *testing.T) {
	texts := append(someTexts(), repeated(90, 7)...)
	j := journalOf(0, texts...)
	kept := 0
	for i := range texts {
		size := len(rows(i, texts[i]))
		for part := range size {
			got, n := impl.ReadRecords(impl.JournalCrash(j, kept+part))
			if !sameTexts(got, texts[:i]) || n != kept {
				t.Errorf("%d of %d bytes of the record %d: %d are found, %d bytes of %d", part, size, i, len(got), n, kept)
			}
		}
		kept += size
		if got, n := impl.ReadRecords(impl.JournalCrash(j, kept)); !sameTexts(got, texts[:i+1]) || n != kept {
			t.Errorf("all of the record %d: %d are found, %d bytes of %d", i, len(got), n, kept)
		}
	}
}

// What is found can be added to, and what was torn leaves no trace.
func TestAJournalGoesOnBehindACrash(t *testing.T) {
	draw := rand.New(rand.NewSource(79))
	for range 2000 {
		p := drawnPlay(t, draw)
		open := impl.JournalOpen(impl.JournalCrash(p.journal, draw.Intn(len(p.journal.Bytes)+2)))
		texts := append(slices.Clone(p.texts[:open.Count]), "go 7")
		next, code := impl.JournalAdd(open, "go 7")
		if got, n := impl.ReadRecords(next.Bytes); code != 0 || !sameTexts(got, texts) || n != len(next.Bytes) || next.Synced != len(open.Bytes) {
			t.Errorf("behind a crash of %s: %s, %d", journalText(p.journal), journalText(next), code)
		}
	}
}

// journalsToShare has journals of which each function has an answer with bytes, and some of which none has.
func journalsToShare() []impl.Journal {
	l := []impl.Journal{{}, journalOf(4, "a", "b c"), journalOf(0, someTexts()...), filled(39000), filled(40000)}
	draw := rand.New(rand.NewSource(80))
	for range 200 {
		l = append(l, drawnJournal(draw))
	}
	for _, j := range wrongJournals() {
		l = append(l, j)
	}
	return l
}

// byteAnswers has the bytes of each answer of the journal.
func byteAnswers(j impl.Journal) [][]byte {
	added, _ := impl.JournalAdd(j, "go 5")
	l := [][]byte{added.Bytes, impl.JournalSync(j).Bytes, impl.JournalOpen(j.Bytes).Bytes}
	for _, keep := range someKeeps(len(j.Bytes) - j.Synced) {
		l = append(l, impl.JournalCrash(j, keep))
	}
	return l
}

func TestJournalArgumentsAreLeftAlone(t *testing.T) {
	written := 0
	for _, journal := range journalsToShare() {
		j := journal
		j.Bytes = withRoomBehind(journal.Bytes, '#')
		kept := slices.Clone(j.Bytes[:cap(j.Bytes)])
		for _, b := range byteAnswers(j) {
			written += cap(b)
			writeOver(b, '?')
		}
		texts, _ := impl.ReadRecords(j.Bytes)
		writeOver(texts, "changed")
		impl.JournalOk(j)
		if !bytes.Equal(j.Bytes[:cap(j.Bytes)], kept) {
			t.Errorf("%s has become %s", journalText(journal), journalText(j))
		}
	}
	if written < 100000 {
		t.Errorf("%d bytes were written over: too few to tell", written)
	}
}

// Whoever has the bytes may write to them again: the answers stay as they were.
func TestJournalAnswersAreNewMemory(t *testing.T) {
	for _, journal := range journalsToShare() {
		j := journalCopy(journal)
		texts, _ := impl.ReadRecords(j.Bytes)
		want, _ := recordsOf(j.Bytes)
		answers := byteAnswers(j)
		var kept [][]byte
		for _, b := range answers {
			kept = append(kept, bytes.Clone(b))
		}
		writeOver(j.Bytes, '?')
		if !sameTexts(texts, want) {
			t.Errorf("the texts of %s have become %.80q", journalText(journal), texts)
		}
		if !slices.EqualFunc(answers, kept, bytes.Equal) {
			t.Errorf("the answers of %s lie in its memory", journalText(journal))
		}
	}
}

func TestJournalAnswersAreKeptByNobody(t *testing.T) {
	for _, j := range journalsToShare() {
		once, again := byteAnswers(j), byteAnswers(j)
		texts, _ := impl.ReadRecords(j.Bytes)
		for _, b := range once {
			writeOver(b, '?')
		}
		writeOver(texts, "changed")
		want, size := recordsOf(j.Bytes)
		if texts, n := impl.ReadRecords(j.Bytes); !sameTexts(texts, want) || n != size {
			t.Errorf("the second answer of %s is %.80q, %d", journalText(j), texts, n)
		}
		if !slices.EqualFunc(byteAnswers(j), again, bytes.Equal) {
			t.Errorf("the answers of %s have changed", journalText(j))
		}
	}
}

// panics tells whether the call panics.
func panics(call func()) (is bool) {
	defer func() { is = recover() != nil }()
	call()
	return
}

// Whatever the reader of records gives up at, no caller sees it.
func TestNoCallOfTheJournalPanics(t *testing.T) {
	draw := rand.New(rand.NewSource(81))
	bad := [][]byte{nil, {}, {0}, {10}, []byte("0"), []byte("0 "), []byte("0 \n"), []byte("1 a\n"), []byte("0 a"), bytes.Repeat([]byte("x"), 50000)}
	for range 3000 {
		b := make([]byte, draw.Intn(30))
		draw.Read(b)
		bad = append(bad, b, changedBytes(draw, rows(0, drawnTexts(draw, 4)...)))
	}
	for _, b := range bad {
		for _, n := range []int{math.MinInt, -1, 0, 1, len(b), math.MaxInt} {
			j := impl.Journal{Bytes: b, Synced: n, Count: n}
			for name, call := range map[string]func(){
				"RecordOk":     func() { impl.RecordOk(string(b)) },
				"ReadRecords":  func() { impl.ReadRecords(b) },
				"JournalOk":    func() { impl.JournalOk(j) },
				"JournalOpen":  func() { impl.JournalOpen(b) },
				"JournalAdd":   func() { impl.JournalAdd(j, string(b)) },
				"JournalSync":  func() { impl.JournalSync(j) },
				"JournalCrash": func() { impl.JournalCrash(j, n) },
			} {
				if panics(call) {
					t.Errorf("%s panics at %.80q, %d", name, b, n)
				}
			}
		}
	}
}
