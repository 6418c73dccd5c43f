package tests

import (
	"fmt"
	"math"
	"math/rand"
	"slices"
	"strings"
	"testing"
	"unsafe"

	"loop.example/g00454/impl"
)

const letters = "abcdefghijklmnopqrstuvwxyz"

// wordRight takes letter after letter of the word, where the program looks for what is none.
func wordRight(s string) bool {
	count := 0
	for _, r := range s {
		if !strings.ContainsRune(letters, r) {
			return false
		}
		count++
	}
	return count >= 1 && count <= 8
}

func accountsRight(l []impl.Account) bool {
	for i, a := range l {
		if !wordRight(a.Name) || a.Share < 1 || a.Share > 1000 || a.Used < 0 || a.Used > 1000000000 {
			return false
		}
		if i > 0 && strings.Compare(l[i-1].Name, a.Name) >= 0 {
			return false
		}
	}
	return len(l) <= 12
}

func accountAtOf(l []impl.Account, name string) int {
	place := -1
	for i, a := range l {
		if accountsRight(l) && a.Name == name {
			place = i
		}
	}
	return place
}

func chargeOf(l []impl.Account, name string, n int) ([]impl.Account, bool) {
	if accountAtOf(l, name) < 0 || n < 0 || n > 1000000000 {
		return nil, false
	}
	var charged []impl.Account
	for _, a := range l {
		if a.Name == name {
			a.Used += n
			if a.Used > 1000000000 {
				a.Used = 1000000000
			}
		}
		charged = append(charged, a)
	}
	return charged, true
}

func fadeOf(l []impl.Account) []impl.Account {
	if !accountsRight(l) {
		return nil
	}
	var faded []impl.Account
	for _, a := range l {
		faded = append(faded, account(a.Name, a.Share, (a.Used-a.Used%2)/2))
	}
	return faded
}

// accountAhead is what the document says of an account that is ahead of another one.
func accountAhead(other, its impl.Account) bool {
	theirs, own := other.Used*its.Share, its.Used*other.Share
	return theirs < own || theirs == own && other.Name < its.Name
}

// ranksOf counts those that are ahead, where the program puts all in their order.
func ranksOf(l []impl.Account) []int {
	if !accountsRight(l) {
		return nil
	}
	var ranks []int
	for i, its := range l {
		ahead := 0
		for k, other := range l {
			if k != i && accountAhead(other, its) {
				ahead++
			}
		}
		ranks = append(ranks, ahead)
	}
	return ranks
}

func rankPrioOf(l []impl.Account, name string, base int) int {
	i := accountAtOf(l, name)
	if i < 0 || base < 0 || base > 999 {
		return -1
	}
	if rank := ranksOf(l)[i]; rank <= base {
		return base - rank
	}
	return 0
}

func account(name string, share, used int) impl.Account {
	return impl.Account{Name: name, Share: share, Used: used}
}

// accounts has these, each as its Share and its Used, with the names a, b and so on.
func accounts(l ...int) []impl.Account {
	var all []impl.Account
	for i := 0; i < len(l); i += 2 {
		all = append(all, account(letters[i/2:i/2+1], l[i], l[i+1]))
	}
	return all
}

// named has right accounts with these names.
func named(names ...string) []impl.Account {
	var l []impl.Account
	for i, name := range names {
		l = append(l, account(name, 1+i, 10*i))
	}
	return l
}

// someAccounts has n accounts that are right as long as there may be so many.
func someAccounts(n int) []impl.Account {
	var l []impl.Account
	for i := range n {
		l = append(l, account(strings.Repeat("z", i/26%8)+letters[i%26:i%26+1], 1+i%1000, 7*i))
	}
	return l
}

func accountsText(l []impl.Account, ok bool) string { return fmt.Sprintf("%v %d %+v", ok, len(l), l) }

// drawnNames has n words that rise; some begin others.
func drawnNames(draw *rand.Rand, n int) []string {
	few := letters[:1+draw.Intn(26)]
	if n > 4 {
		few = letters[:3+draw.Intn(24)]
	}
	var names []string
	for len(names) < n {
		name := ""
		for range 1 + draw.Intn(8) {
			name += string(few[draw.Intn(len(few))])
		}
		if !slices.Contains(names, name) {
			names = append(names, name)
		}
	}
	slices.Sort(names)
	return names
}

// drawnUse has the Share and the Used of an account, of one of several kinds: equal Used, equal Share, equal products, the edges, few, any.
func drawnUse(draw *rand.Rand, kind int) (int, int) {
	share := 1 + draw.Intn(1000)
	switch kind {
	case 0:
		return share, 700
	case 1:
		return 20, draw.Intn(1000000001)
	case 2:
		return 20, draw.Intn(4)
	case 3:
		return share, 1234 * share
	case 4:
		return share, 1000000 * share
	case 5:
		return share, 0
	case 6:
		return share, 1000000000
	case 7:
		return []int{1, 2, 999, 1000}[draw.Intn(4)], []int{0, 1, 999999999, 1000000000}[draw.Intn(4)]
	case 8:
		return 1 + draw.Intn(4), draw.Intn(7)
	case 9:
		return share, (1000 + draw.Intn(2)) * share
	case 10:
		return share, 1000000*share - draw.Intn(2)
	}
	return share, draw.Intn(1000000001)
}

func drawnAccounts(draw *rand.Rand, n int) []impl.Account {
	var l []impl.Account
	kind := draw.Intn(13)
	for _, name := range drawnNames(draw, n) {
		share, used := drawnUse(draw, kind)
		l = append(l, account(name, share, used))
	}
	return l
}

// drawnBooks has many lists of right accounts, of each size.
func drawnBooks(seed int64) [][]impl.Account {
	var books [][]impl.Account
	draw := rand.New(rand.NewSource(seed))
	for range 150 {
		for n := range 13 {
			books = append(books, drawnAccounts(draw, n))
		}
	}
	return books
}

// shortBooks has every list of up to three accounts with these shares and these uses.
func shortBooks() [][]impl.Account {
	books := [][]impl.Account{nil}
	for from := 0; len(books[len(books)-1]) < 3; {
		till := len(books)
		for _, short := range books[from:till] {
			for _, share := range []int{1, 2, 4} {
				for _, used := range []int{0, 1, 2, 4} {
					books = append(books, append(slices.Clone(short), account(letters[len(short):len(short)+1], share, used)))
				}
			}
		}
		from = till
	}
	return books
}

// changedBook has one account that is drawn anew, or two that have changed places, or one more.
func changedBook(draw *rand.Rand, l []impl.Account) []impl.Account {
	l = slices.Clone(l)
	if len(l) == 0 || draw.Intn(5) == 0 {
		return append(l, account(drawnNames(draw, 1)[0], 1+draw.Intn(1000), draw.Intn(1000)))
	}
	a := &l[draw.Intn(len(l))]
	switch draw.Intn(4) {
	case 0:
		a.Name = wrongWords()[draw.Intn(len(wrongWords()))]
	case 1:
		a.Share = edgeUses[draw.Intn(len(edgeUses))]
	case 2:
		a.Used = edgeUses[draw.Intn(len(edgeUses))]
	case 3:
		other := &l[draw.Intn(len(l))]
		a.Name, other.Name = other.Name, a.Name
	}
	return l
}

// edgeUses has numbers at the edges of shares, of what was used and of bases, and far beyond.
var edgeUses = []int{
	math.MinInt, math.MinInt + 1, -1000000001, -1000000000, -1000, -1, 0, 1, 2, 3, 11, 12, 13, 998, 999, 1000, 1001,
	999999998, 999999999, 1000000000, 1000000001, 2000000000, math.MaxInt - 1000000000, math.MaxInt - 1, math.MaxInt,
}

func rightWords() []string {
	return []string{"a", "z", "m", "ab", "zz", "abc", "aaaaaaaa", "zzzzzzzz", "abcdefgh", "stuvwxyz", "slurm"}
}

// wrongWords has texts that are no words, each for one cause.
func wrongWords() []string {
	l := []string{
		"", "abcdefghi", "aaaaaaaaa", strings.Repeat("a", 16), strings.Repeat("b", 100000),
		"A", "Z", "Abc", "abC", "0", "9", "a1", "1a", "ab2cd", " ", "a ", " a", "a b", "\n", "a\n", "\x00", "a\x00", "a/b", "a-b", "a_b",
		"é", "éa", "aé", "ß", "éé", "éééé", "abcdefgé", "ａ", "a\u0301", "\x80", "a\xff", "\xc3", "а",
	}
	// Next to the letters, and next to them with a bit more or less, at the first place, the last and between.
	for _, sign := range []string{"`", "{", "@", "[", "á", "\x01", "\xe1"} {
		l = append(l, sign, sign+"a", "a"+sign, "a"+sign+"a", "abcdefg"+sign, sign+"abcdefg")
	}
	return l
}

// wrongBooks has lists of accounts that are not right, each for one cause.
func wrongBooks() map[string][]impl.Account {
	full := someAccounts(12)
	equal, falling, swapped := someAccounts(12), someAccounts(12), someAccounts(12)
	equal[11].Name = equal[10].Name
	swapped[0].Name, swapped[1].Name = swapped[1].Name, swapped[0].Name
	slices.Reverse(falling)
	l := map[string][]impl.Account{
		"one more than MaxAccounts":              someAccounts(13),
		"two more than MaxAccounts":              someAccounts(14),
		"very many":                              slices.Repeat(full, 10000),
		"very many of nothing":                   make([]impl.Account, 100000),
		"nothing":                                {{}},
		"two of nothing":                         {{}, {}},
		"only a name":                            {{Name: "a"}},
		"two equal names":                        named("art", "art"),
		"two equal accounts":                     {account("art", 1, 1), account("art", 1, 1)},
		"equal names at the end":                 equal,
		"equal names at the beginning":           named("art", "art", "bio"),
		"equal names apart":                      named("art", "bio", "art"),
		"names that fall":                        named("bio", "art"),
		"names that fall at the end":             named("art", "chem", "bio"),
		"names that fall at the start":           swapped,
		"many names that fall":                   falling,
		"a name that begins the one ahead of it": named("arts", "art"),
	}
	for _, name := range wrongWords() {
		l[fmt.Sprintf("only the name %.20q of %d", name, len(name))] = named(name)
		l[fmt.Sprintf("the name %.20q of %d at the first place", name, len(name))] = append(named(name), account("zzzzzzzz", 1, 1))
		l[fmt.Sprintf("the name %.20q of %d at the last place", name, len(name))] = append(named("a"), account(name, 1, 1))
	}
	for _, n := range edgeUses {
		for _, place := range []int{0, 5, 11} {
			if n < 1 || n > 1000 {
				share := slices.Clone(full)
				share[place].Share = n
				l[fmt.Sprint("a Share of ", n, " at place ", place)] = share
			}
			if n < 0 || n > 1000000000 {
				used := slices.Clone(full)
				used[place].Used = n
				l[fmt.Sprint("a Used of ", n, " at place ", place)] = used
			}
		}
	}
	return l
}

// edgeBooks has right lists of accounts at the edges.
func edgeBooks() map[string][]impl.Account {
	return map[string][]impl.Account{
		"nil":                             nil,
		"none":                            {},
		"one":                             accounts(1, 0),
		"the least":                       accounts(1, 0, 1, 0, 1, 0),
		"the greatest":                    accounts(1000, 1000000000, 1000, 1000000000, 1000, 1000000000),
		"the greatest and the least":      accounts(1000, 1000000000, 1, 0, 1000, 0, 1, 1000000000),
		"one less than MaxAccounts":       someAccounts(11),
		"MaxAccounts":                     someAccounts(12),
		"words of one letter and of 8":    named("a", "aaaaaaaa", "b", "zzzzzzzz"),
		"names that begin others":         named("a", "ab", "abc", "abcd", "abcde", "abcdef", "abcdefg", "abcdefgh"),
		"a short name behind a long one":  named("aaaaaaaa", "b"),
		"names that differ at their ends": named("slurma", "slurmb"),
	}
}

func TestShareLimits(t *testing.T) {
	if impl.MaxAccounts != 12 || impl.MaxShare != 1000 || impl.MaxUsed != 1000000000 {
		t.Errorf("MaxAccounts is %d, MaxShare %d, MaxUsed %d", impl.MaxAccounts, impl.MaxShare, impl.MaxUsed)
	}
}

func TestWordOk(t *testing.T) {
	for _, s := range rightWords() {
		if !impl.WordOk(s) {
			t.Errorf("%q is no word", s)
		}
	}
	for _, s := range wrongWords() {
		if impl.WordOk(s) {
			t.Errorf("%.40q of %d bytes is a word", s, len(s))
		}
	}
	for n := range 20 {
		for _, letter := range letters {
			if ok := impl.WordOk(strings.Repeat(string(letter), n)); ok != (n >= 1 && n <= 8) {
				t.Errorf("WordOk of %d times %q is %v", n, letter, ok)
			}
		}
	}
}

// Every byte and many runes, alone and at each place of a word.
func TestWordOkOfEachSign(t *testing.T) {
	var signs []string
	for b := range 256 {
		signs = append(signs, string([]byte{byte(b)}))
	}
	for r := rune(0); r < 0x3000; r++ {
		signs = append(signs, string(r))
	}
	small := 0
	for _, sign := range signs {
		for _, s := range []string{sign, sign + "a", "a" + sign, "ab" + sign + "cd", "abcdefg" + sign, sign + "abcdefg"} {
			if got := impl.WordOk(s); got != wordRight(s) {
				t.Errorf("WordOk(%q) is %v", s, got)
			}
		}
		if impl.WordOk(sign) {
			small++
		}
	}
	// Each letter comes once as a byte and once as a rune.
	if small != 2*26 {
		t.Errorf("%d signs are small letters", small)
	}
}

func TestAccountsOk(t *testing.T) {
	for name, l := range edgeBooks() {
		if !impl.AccountsOk(l) {
			t.Errorf("%s: not right", name)
		}
	}
	for name, l := range wrongBooks() {
		if impl.AccountsOk(l) {
			t.Errorf("%s: right", name)
		}
	}
	draw := rand.New(rand.NewSource(153))
	right, wrong := 0, 0
	for _, l := range drawnBooks(154) {
		if !impl.AccountsOk(l) {
			t.Errorf("%+v is not right", l)
		}
		q := changedBook(draw, l)
		if impl.AccountsOk(q) != accountsRight(q) {
			t.Errorf("AccountsOk(%+v) is %v", q, impl.AccountsOk(q))
		}
		if accountsRight(q) {
			right++
		} else {
			wrong++
		}
	}
	if right < 300 || wrong < 300 {
		t.Errorf("%d changed lists are right, %d wrong: too few to tell", right, wrong)
	}
}

func TestAccountAt(t *testing.T) {
	draw := rand.New(rand.NewSource(155))
	there, missing := 0, 0
	for _, l := range append(drawnBooks(156), shortBooks()...) {
		for i, a := range l {
			if got := impl.AccountAt(l, a.Name); got != i {
				t.Errorf("AccountAt(%+v, %q) is %d", l, a.Name, got)
			}
			there++
		}
		for _, name := range append(drawnNames(draw, 3), "", "zzzzzzzz", "aaaaaaaa", "Art", "abcdefghi") {
			if got := impl.AccountAt(l, name); got != accountAtOf(l, name) {
				t.Errorf("AccountAt(%+v, %q) is %d", l, name, got)
			} else if got < 0 {
				missing++
			}
		}
	}
	if there < 5000 || missing < 5000 {
		t.Errorf("%d names are there, %d are not: too few to tell", there, missing)
	}
}

func TestAccountAtByHand(t *testing.T) {
	l := named("a", "art", "arts", "bio", "zzzzzzzz")
	for _, c := range []struct {
		name string
		want int
	}{
		{"a", 0}, {"art", 1}, {"arts", 2}, {"bio", 3}, {"zzzzzzzz", 4},
		{"", -1}, {"ar", -1}, {"artsy", -1}, {"b", -1}, {"zzz", -1}, {"zzzzzzzzz", -1}, {"A", -1}, {"Art", -1}, {"art ", -1}, {"art\x00", -1}, {"zoo", -1},
	} {
		if got := impl.AccountAt(l, c.name); got != c.want {
			t.Errorf("AccountAt(%q) is %d, not %d", c.name, got, c.want)
		}
	}
	for _, none := range [][]impl.Account{nil, {}} {
		for _, name := range []string{"", "a", "art"} {
			if got := impl.AccountAt(none, name); got != -1 {
				t.Errorf("AccountAt of none, %q, is %d", name, got)
			}
		}
	}
}

// In what isn't right no account is found, whatever its name: so it isn't charged, and has no rank.
func TestWrongAccounts(t *testing.T) {
	draw := rand.New(rand.NewSource(157))
	books := wrongBooks()
	for i, l := range drawnBooks(158) {
		if q := changedBook(draw, l); !accountsRight(q) {
			books[fmt.Sprint("drawn ", i)] = q
		}
	}
	if len(books) < 500 {
		t.Errorf("%d wrong lists: too few to tell", len(books))
	}
	for name, l := range books {
		if faded := impl.Fade(l); len(faded) > 0 {
			t.Errorf("%s: Fade has %d", name, len(faded))
		}
		if ranks := impl.Ranks(l); len(ranks) > 0 {
			t.Errorf("%s: Ranks has %d", name, len(ranks))
		}
		for _, a := range append(slices.Clone(l[:min(len(l), 15)]), account("art", 1, 1), account("", 1, 1)) {
			if at := impl.AccountAt(l, a.Name); at != -1 {
				t.Errorf("%s: AccountAt(%q) is %d", name, a.Name, at)
			}
			if charged, ok := impl.Charge(l, a.Name, 1); ok || len(charged) > 0 {
				t.Errorf("%s: Charge(%q) is %s", name, a.Name, accountsText(charged, ok))
			}
			if prio := impl.RankPrio(l, a.Name, 500); prio != -1 {
				t.Errorf("%s: RankPrio(%q) is %d", name, a.Name, prio)
			}
		}
	}
}

// Who is charged has n more used, MaxUsed where it would be more; every other account is as it was.
func TestCharge(t *testing.T) {
	draw := rand.New(rand.NewSource(159))
	charges, cut, justMost := 0, 0, 0
	for _, l := range append(drawnBooks(160), shortBooks()...) {
		for i, a := range l {
			for _, n := range []int{0, 1, draw.Intn(1000), draw.Intn(1000000001), 1000000000 - a.Used, min(1000000001-a.Used, 1000000000), 1000000000} {
				got, ok := impl.Charge(l, a.Name, n)
				want, _ := chargeOf(l, a.Name, n)
				if !ok || !slices.Equal(got, want) || !impl.AccountsOk(got) {
					t.Fatalf("Charge(%+v, %q, %d) is %s", l, a.Name, n, accountsText(got, ok))
				}
				for k := range l {
					if k != i && got[k] != l[k] {
						t.Errorf("Charge(%+v, %q, %d) has %+v at place %d", l, a.Name, n, got[k], k)
					}
				}
				if used := got[i].Used; used != min(a.Used+n, 1000000000) || used < a.Used || got[i].Name != a.Name || got[i].Share != a.Share {
					t.Errorf("Charge(%+v, %q, %d) has %+v", l, a.Name, n, got[i])
				}
				switch {
				case a.Used+n > 1000000000:
					cut++
				case a.Used+n == 1000000000:
					justMost++
				default:
					charges++
				}
			}
		}
	}
	if charges < 5000 || cut < 5000 || justMost < 5000 {
		t.Errorf("%d charges below MaxUsed, %d just to it, %d beyond it: too few to tell", charges, justMost, cut)
	}
}

func TestChargeByHand(t *testing.T) {
	l := func(used int) []impl.Account {
		return []impl.Account{account("art", 2, 10), account("bio", 1, used), account("chem", 1000, 1000000000)}
	}
	nothing := accountsText(nil, false)
	for _, c := range []struct {
		used int
		name string
		n    int
		want string
	}{
		{5, "bio", 0, accountsText(l(5), true)},
		{5, "bio", 1, accountsText(l(6), true)},
		{5, "bio", 8, accountsText(l(13), true)},
		{0, "bio", 1000000000, accountsText(l(1000000000), true)},
		{1, "bio", 1000000000, accountsText(l(1000000000), true)},
		{1, "bio", 999999999, accountsText(l(1000000000), true)},
		{1, "bio", 999999998, accountsText(l(999999999), true)},
		{2, "bio", 999999999, accountsText(l(1000000000), true)},
		{1000000000, "bio", 0, accountsText(l(1000000000), true)},
		{1000000000, "bio", 1, accountsText(l(1000000000), true)},
		{1000000000, "bio", 1000000000, accountsText(l(1000000000), true)},
		{7, "chem", 5, accountsText(l(7), true)},
		{5, "bio", 1000000001, nothing},
		{5, "bio", -1, nothing},
		{5, "bio", -5, nothing},
		{5, "bio", math.MinInt, nothing},
		{5, "bio", math.MaxInt, nothing},
		{5, "bio", math.MaxInt - 4, nothing},
		{1000000000, "bio", 1000000001, nothing},
		{1000000000, "bio", -1, nothing},
		{5, "zoo", 1, nothing},
		{5, "", 1, nothing},
		{5, "bi", 1, nothing},
		{5, "bios", 1, nothing},
		{5, "Bio", 1, nothing},
		{5, "zoo", -1, nothing},
		{-1, "bio", 1, nothing},
		{-1, "art", 1, nothing},
		{1000000001, "chem", 0, nothing},
		{1000000001, "bio", 0, nothing},
	} {
		if got := accountsText(impl.Charge(l(c.used), c.name, c.n)); got != c.want {
			t.Errorf("Charge of %q, that used %d, by %d is %s, not %s", c.name, c.used, c.n, got, c.want)
		}
	}
	for _, none := range [][]impl.Account{nil, {}} {
		if got := accountsText(impl.Charge(none, "art", 1)); got != nothing {
			t.Errorf("Charge of none is %s", got)
		}
	}
}

func TestChargeOfEdges(t *testing.T) {
	for name, l := range edgeBooks() {
		for _, n := range edgeUses {
			for _, a := range append(slices.Clone(l), account("nobody", 1, 1), account("", 1, 1)) {
				want := accountsText(chargeOf(l, a.Name, n))
				if got := accountsText(impl.Charge(l, a.Name, n)); got != want {
					t.Errorf("%s: Charge(%q, %d) is %s, not %s", name, a.Name, n, got, want)
				}
			}
		}
	}
}

// One charge behind the other is one charge of the sum.
func TestChargesAddUp(t *testing.T) {
	draw := rand.New(rand.NewSource(161))
	for _, l := range drawnBooks(162) {
		if len(l) == 0 {
			continue
		}
		name, sum, most := l[draw.Intn(len(l))].Name, 0, []int{10, 1000, 100000000}[draw.Intn(3)]
		in := l
		for range 1 + draw.Intn(9) {
			n := draw.Intn(most)
			in, _ = impl.Charge(in, name, n)
			sum += n
		}
		if once, ok := impl.Charge(l, name, sum); !ok || !slices.Equal(in, once) {
			t.Errorf("Charge(%+v, %q, %d) is %s, in parts it is %+v", l, name, sum, accountsText(once, ok), in)
		}
	}
}

func TestFade(t *testing.T) {
	odd, even, none := 0, 0, 0
	for _, l := range append(drawnBooks(163), shortBooks()...) {
		got := impl.Fade(l)
		if !slices.Equal(got, fadeOf(l)) || !impl.AccountsOk(got) {
			t.Fatalf("Fade(%+v) is %+v", l, got)
		}
		for i, a := range l {
			// Cut down: twice as much is what it was, or one less.
			twice := 2 * got[i].Used
			if twice > a.Used || twice < a.Used-1 || got[i].Name != a.Name || got[i].Share != a.Share {
				t.Errorf("Fade of %+v is %+v", a, got[i])
			}
			switch {
			case a.Used == 0:
				none++
			case a.Used%2 == 1:
				odd++
			default:
				even++
			}
		}
	}
	if odd < 2000 || even < 2000 || none < 1000 {
		t.Errorf("%d odd, %d even, %d of 0: too few to tell", odd, even, none)
	}
}

func TestFadeByHand(t *testing.T) {
	for _, c := range []struct{ used, want int }{
		{0, 0}, {1, 0}, {2, 1}, {3, 1}, {4, 2}, {5, 2}, {999, 499}, {1000, 500}, {999999999, 499999999}, {1000000000, 500000000},
	} {
		for _, share := range []int{1, 2, 1000} {
			l := accounts(share, c.used, 3, 7, share, c.used)
			if got := impl.Fade(l); !slices.Equal(got, accounts(share, c.want, 3, 3, share, c.want)) {
				t.Errorf("Fade of %d is %+v", c.used, got)
			}
		}
	}
	for _, none := range [][]impl.Account{nil, {}} {
		if got := impl.Fade(none); len(got) > 0 {
			t.Errorf("Fade of none is %+v", got)
		}
	}
	// Half of the greatest again and again: nothing is left behind 30 times, and then it stays so.
	l := accounts(1000, 1000000000)
	for time := 1; time <= 35; time++ {
		l = impl.Fade(l)
		if (l[0].Used == 0) != (time >= 30) || l[0].Used != 1000000000>>time {
			t.Errorf("behind %d times %+v is left", time, l)
		}
	}
}

func TestRanks(t *testing.T) {
	byProduct, byName := 0, 0
	for _, l := range append(drawnBooks(164), shortBooks()...) {
		got := impl.Ranks(l)
		if !slices.Equal(got, ranksOf(l)) {
			t.Errorf("Ranks(%+v) is %v, not %v", l, got, ranksOf(l))
		}
		for i, a := range l {
			for _, b := range l[i+1:] {
				if a.Used*b.Share == b.Used*a.Share {
					byName++
				} else {
					byProduct++
				}
			}
		}
	}
	if byProduct < 10000 || byName < 10000 {
		t.Errorf("%d pairs with products that differ, %d with equal ones: too few to tell", byProduct, byName)
	}
}

// Each account has a rank of its own: each number from 0 to one less than their count just once.
func TestEachAccountHasARankOfItsOwn(t *testing.T) {
	full := 0
	for _, l := range append(drawnBooks(165), shortBooks()...) {
		ranks := impl.Ranks(l)
		if len(ranks) != len(l) {
			t.Fatalf("Ranks(%+v) is %v", l, ranks)
		}
		told := make([]int, len(l))
		for i, rank := range ranks {
			if rank < 0 || rank >= len(l) {
				t.Fatalf("Ranks(%+v) is %v", l, ranks)
			}
			told[rank]++
			if prio := impl.RankPrio(l, l[i].Name, 999); prio != 999-rank {
				t.Errorf("RankPrio(%+v, %q, 999) is %d, its rank is %d", l, l[i].Name, prio, rank)
			}
		}
		for rank, often := range told {
			if often != 1 {
				t.Errorf("Ranks(%+v) is %v: %d is there %d times", l, ranks, rank, often)
			}
		}
		if len(l) == impl.MaxAccounts {
			full++
		}
	}
	if full < 100 {
		t.Errorf("%d with MaxAccounts: too few to tell", full)
	}
}

func TestRanksByHand(t *testing.T) {
	for _, c := range []struct {
		name string
		l    []impl.Account
		want []int
	}{
		{"nil", nil, nil},
		{"none", []impl.Account{}, nil},
		{"one", accounts(5, 7), []int{0}},
		{"one that used all", accounts(1, 1000000000), []int{0}},
		{"all alike", accounts(3, 6, 3, 6, 3, 6), []int{0, 1, 2}},
		{"nothing used, shares that fall", accounts(9, 0, 5, 0, 1, 0), []int{0, 1, 2}},
		{"nothing used, shares that rise", accounts(1, 0, 5, 0, 9, 0), []int{0, 1, 2}},
		{"equal shares", accounts(2, 30, 2, 10, 2, 20), []int{2, 0, 1}},
		{"equal use", accounts(1, 10, 3, 10, 2, 10), []int{2, 0, 1}},
		{"equal products", accounts(3, 9, 1, 3, 2, 6), []int{0, 1, 2}},
		{"equal products, and one less", accounts(3, 9, 1, 3, 2, 5), []int{1, 2, 0}},
		{"equal products, and one more", accounts(3, 10, 1, 3, 2, 6), []int{2, 0, 1}},
		{"quotients that are equal cut down", accounts(2, 3, 2, 2, 1, 1), []int{2, 0, 1}},
		{"the greatest products", accounts(1000, 999999999, 1000, 1000000000, 999, 1000000000, 999, 999999999), []int{0, 1, 3, 2}},
		{"as near as can be", accounts(1000, 1000000000, 1000, 999999999, 999, 999000000, 999, 998999999), []int{2, 1, 3, 0}},
		{"nothing and the least", accounts(1, 1, 1000, 1, 1000, 0), []int{2, 1, 0}},
		{"the given one", []impl.Account{account("art", 2, 10), account("bio", 1, 5), account("chem", 1, 1)}, []int{1, 2, 0}},
		{"names that begin others", []impl.Account{account("a", 1, 1), account("ab", 2, 2), account("abc", 3, 2)}, []int{1, 2, 0}},
		{"MaxAccounts, rising", accounts(1, 0, 1, 1, 1, 2, 1, 3, 1, 4, 1, 5, 1, 6, 1, 7, 1, 8, 1, 9, 1, 10, 1, 11), []int{0, 1, 2, 3, 4, 5, 6, 7, 8, 9, 10, 11}},
		{"MaxAccounts, falling", accounts(1, 11, 1, 10, 1, 9, 1, 8, 1, 7, 1, 6, 1, 5, 1, 4, 1, 3, 1, 2, 1, 1, 1, 0), []int{11, 10, 9, 8, 7, 6, 5, 4, 3, 2, 1, 0}},
		{"MaxAccounts and one more", someAccounts(13), nil},
		{"names that fall", named("bio", "art"), nil},
	} {
		if got := impl.Ranks(c.l); !slices.Equal(got, c.want) {
			t.Errorf("%s: Ranks is %v, not %v", c.name, got, c.want)
		}
	}
}

// Who is charged comes no further ahead, who isn't falls no further back than by that one.
func TestWhoIsChargedComesNoFurtherAhead(t *testing.T) {
	draw := rand.New(rand.NewSource(166))
	fell := 0
	for _, l := range drawnBooks(167) {
		before := impl.Ranks(l)
		for i, a := range l {
			charged, _ := impl.Charge(l, a.Name, draw.Intn(1000000001))
			after := impl.Ranks(charged)
			for k := range l {
				if k == i && after[k] < before[k] || k != i && (after[k] > before[k] || after[k] < before[k]-1) {
					t.Errorf("%+v with the ranks %v becomes %+v with %v", l, before, charged, after)
				}
			}
			if after[i] > before[i] {
				fell++
			}
		}
	}
	if fell < 1000 {
		t.Errorf("%d fell: too few to tell", fell)
	}
}

func TestRankPrio(t *testing.T) {
	below, at, above := 0, 0, 0
	for _, l := range append(drawnBooks(168), shortBooks()...) {
		for i, a := range l {
			rank := ranksOf(l)[i]
			for _, base := range []int{-1, 0, 1, rank - 1, rank, rank + 1, 11, 500, 999, 1000} {
				got := impl.RankPrio(l, a.Name, base)
				if got != rankPrioOf(l, a.Name, base) {
					t.Errorf("RankPrio(%+v, %q, %d) is %d, the rank is %d", l, a.Name, base, got, rank)
				}
				switch {
				case base < 0 || base > 999:
				case base < rank:
					below++
				case base == rank:
					at++
				default:
					above++
				}
			}
		}
		for _, name := range []string{"", "nobody", "A"} {
			if got := impl.RankPrio(l, name, 500); got != rankPrioOf(l, name, 500) {
				t.Errorf("RankPrio(%+v, %q, 500) is %d", l, name, got)
			}
		}
	}
	if below < 5000 || at < 5000 || above < 5000 {
		t.Errorf("%d bases below the rank, %d at it, %d above it: too few to tell", below, at, above)
	}
}

func TestRankPrioByHand(t *testing.T) {
	l := accounts(1, 30, 1, 10, 1, 20, 1, 0)
	for _, c := range []struct {
		name       string
		base, want int
	}{
		{"a", 5, 2}, {"b", 5, 4}, {"c", 5, 3}, {"d", 5, 5},
		{"a", 4, 1}, {"a", 3, 0}, {"a", 2, 0}, {"a", 1, 0}, {"a", 0, 0}, {"d", 0, 0}, {"d", 1, 1}, {"b", 1, 0}, {"b", 2, 1},
		{"a", 999, 996}, {"b", 999, 998}, {"c", 999, 997}, {"d", 999, 999}, {"d", 998, 998},
		{"a", -1, -1}, {"d", -1, -1}, {"a", 1000, -1}, {"d", 1000, -1}, {"a", math.MinInt, -1}, {"a", math.MaxInt, -1}, {"d", math.MaxInt, -1},
		{"", 5, -1}, {"e", 5, -1}, {"ab", 5, -1}, {"A", 5, -1}, {"e", -1, -1}, {"e", 1000, -1}, {"e", 0, -1},
	} {
		if got := impl.RankPrio(l, c.name, c.base); got != c.want {
			t.Errorf("RankPrio(%q, %d) is %d, not %d", c.name, c.base, got, c.want)
		}
	}
	for _, none := range [][]impl.Account{nil, {}} {
		if got := impl.RankPrio(none, "a", 5); got != -1 {
			t.Errorf("RankPrio of none is %d", got)
		}
	}
}

func TestNoCallOfSharesPanics(t *testing.T) {
	draw := rand.New(rand.NewSource(169))
	words := append(append(rightWords(), wrongWords()...), "art", "b", "c")
	books := [][]impl.Account{nil, {}}
	for _, l := range wrongBooks() {
		books = append(books, l)
	}
	for _, l := range edgeBooks() {
		books = append(books, l)
	}
	for range 2000 {
		var l []impl.Account
		for range draw.Intn(15) {
			l = append(l, account(words[draw.Intn(len(words))], edgeUses[draw.Intn(len(edgeUses))], edgeUses[draw.Intn(len(edgeUses))]))
		}
		slices.SortFunc(l, func(a, b impl.Account) int { return strings.Compare(a.Name, b.Name) })
		books = append(books, l)
	}
	for _, l := range books {
		name, n := words[draw.Intn(len(words))], edgeUses[draw.Intn(len(edgeUses))]
		if len(l) > 0 && draw.Intn(2) == 0 {
			name = l[draw.Intn(len(l))].Name
		}
		for call, f := range map[string]func(){
			"WordOk":     func() { impl.WordOk(name) },
			"AccountsOk": func() { impl.AccountsOk(l) },
			"AccountAt":  func() { impl.AccountAt(l, name) },
			"Charge":     func() { impl.Charge(l, name, n) },
			"Fade":       func() { impl.Fade(l) },
			"Ranks":      func() { impl.Ranks(l) },
			"RankPrio":   func() { impl.RankPrio(l, name, n) },
		} {
			if panics(f) {
				t.Errorf("%s panics at %.300v, %.40q, %d", call, l, name, n)
			}
		}
	}
}

// bookAnswers has the accounts and the ranks that are worked out of l.
func bookAnswers(l []impl.Account) ([][]impl.Account, []int) {
	answers := [][]impl.Account{impl.Fade(l)}
	for _, a := range append(slices.Clone(l[:min(len(l), 15)]), account("nobody", 1, 1)) {
		for _, n := range []int{-1, 0, 1, 1000000000} {
			charged, _ := impl.Charge(l, a.Name, n)
			answers = append(answers, charged)
		}
	}
	return answers, impl.Ranks(l)
}

func booksToShare() [][]impl.Account {
	books := drawnBooks(170)[:400]
	for _, l := range edgeBooks() {
		books = append(books, l)
	}
	return append(books, someAccounts(13), named("bio", "art"), named("a", ""), make([]impl.Account, 5))
}

func TestAccountsAreLeftAlone(t *testing.T) {
	wrong := account("WRONG", -7, -7)
	for _, book := range booksToShare() {
		l := withRoomBehind(book, wrong)
		kept := slices.Clone(l[:cap(l)])
		answers, ranks := bookAnswers(l)
		for _, answer := range answers {
			writeOver(answer, wrong)
		}
		writeOver(ranks, -7)
		for _, a := range book {
			impl.AccountAt(l, a.Name)
			impl.RankPrio(l, a.Name, 5)
		}
		impl.AccountsOk(l)
		if !slices.Equal(l[:cap(l)], kept) {
			t.Errorf("%+v has become %+v", kept, l[:cap(l)])
		}
	}
}

func TestAnswersOfSharesAreKeptByNobody(t *testing.T) {
	for _, l := range booksToShare() {
		once, onceRanks := bookAnswers(l)
		again, ranks := bookAnswers(l)
		for _, answer := range once {
			writeOver(answer, account("WRONG", -7, -7))
		}
		writeOver(onceRanks, -7)
		third, thirdRanks := bookAnswers(l)
		if !slices.EqualFunc(again, third, slices.Equal) || !slices.Equal(ranks, thirdRanks) || !slices.Equal(ranks, ranksOf(l)) {
			t.Errorf("the answers of %+v have changed", l)
		}
	}
}

// The names of an answer are no pieces of the text that the names of the argument are pieces of.
func TestNamesOfAnswersAreNewMemory(t *testing.T) {
	text := strings.Clone("art bio chem")
	l := []impl.Account{account(text[:3], 1, 1), account(text[4:7], 1, 1), account(text[8:], 1, 1)}
	first := uintptr(unsafe.Pointer(unsafe.StringData(text)))
	answers, _ := bookAnswers(l)
	for _, answer := range answers {
		for _, a := range answer {
			if at := uintptr(unsafe.Pointer(unsafe.StringData(a.Name))); at >= first && at < first+uintptr(len(text)) {
				t.Errorf("the name %q lies in the text of the argument", a.Name)
			}
		}
	}
}
