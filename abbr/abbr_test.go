package abbr

import (
	"math/rand"
	"regexp"
	"slices"
	"strconv"
	"strings"
	"sync"
	"testing"
	"unsafe"

	"epact/api"
)

const (
	most  = api.MaxInt
	least = api.MinInt
)

// nameBytes are all bytes that a name may have, written out.
const nameBytes = "ABCDEFGHIJKLMNOPQRSTUVWXYZabcdefghijklmnopqrstuvwxyz0123456789+-"

// rightName is another way to tell whether a text is a name, by a pattern.
var rightName = regexp.MustCompile(`\A[A-Za-z0-9+-]{3,16}\z`)

// odd are signs of more than one byte, and bytes that are no sign of UTF-8: among them letters, digits and signs of other scripts, signs whose lowest byte is a letter, a digit, a + or a -, long forms of these, and signs that are cut off.
func odd() []string {
	return []string{
		"\u0080", "\u00a0", "\u00ad", "\u00b1", "\u00b2", "\u00c4", "\u00e4", "\u00df", "\u0391", "\u0410", "\u0660", "\u06f1", "\u0966", "\u1e9e", "\u200b", "\u2010", "\u2011", "\u2013", "\u207a", "\u207b", "\u2212", "\u212a", "\u017f", "\ufeff", "\ufffd", "\uff0b", "\uff0d", "\uff10", "\uff21", "\uff3a", "\uff41",
		"\u012b", "\u012d", "\u0130", "\u0139", "\u0141", "\u015a", "\u0161", "\u017a", "\u022b", "\u2041", "\U00010041", "\U00010030", "\U0001d400", "\U0001d7ce",
		"\x80", "\xab", "\xad", "\xb0", "\xb9", "\xc1", "\xda", "\xe1", "\xfa", "\xff", "\xfe", "\xc0\x80", "\xc0\xab", "\xc0\xb1", "\xc1\x81", "\xe0\x80\xb0", "\xed\xa0\x80", "\xf4\x90\x80\x80", "\xc3", "\xe2\x80", "\xf0\x9d\x9f",
	}
}

// wrongNames are texts that are no names: too short, too long, with a byte that may not be.
func wrongNames() []string {
	return []string{
		"", "E", "ES", "--", "+1", "ABCDEFGHIJKLMNOPQ", "+----------------", strings.Repeat("A", 32), strings.Repeat("A", 255), strings.Repeat("A", 256), strings.Repeat("A", 257), strings.Repeat("A", 1<<16), strings.Repeat("A", 1<<16+3),
		"E T", " ES", "ES ", "   ", "E_T", "E.T", "E,T", "E/T", "<ES", "ES>", "<EST>", "<+03>", "E:T", "E@T", "E[T", "E`T", "E{T", "E*T", "E\tT", "EST\n", "EST\r", "\nEST", "EST\x00", "\x00EST", "E\x00T", "\x00\x00\x00", "EST\x00EDT", "E\x7fT", "\u00c4ST", "ES\u00e4", "ES\xff", "\xff\xff\xff", "\u00c4", "\u212aST",
	}
}

// slowPool is another way to a pool, by going through all that came ahead.
func slowPool(l []string) (string, []int, bool) {
	var once []string
	for k, s := range l {
		if !rightName.MatchString(s) {
			return "", nil, false
		}
		if slices.Index(l, s) == k {
			once = append(once, s+"\x00")
		}
	}
	pool := strings.Join(once, "")
	if len(pool) > 256 {
		return "", nil, false
	}
	var begins []int
	for _, s := range l {
		k := slices.Index(once, s+"\x00")
		begins = append(begins, len(strings.Join(once[:k], "")))
	}
	return pool, begins, true
}

// slowAt is another way to a name in a pool, byte by byte.
func slowAt(pool string, at int) (string, bool) {
	for to := at; at >= 0 && to < len(pool); to++ {
		if pool[to] == 0 {
			if s := pool[at:to]; rightName.MatchString(s) {
				return s, true
			}
			break
		}
	}
	return "", false
}

func checkRight(t *testing.T, s string, want bool) {
	t.Helper()
	if is := Right(s); is != want {
		t.Errorf("Right(%q): %t", s, is)
	}
}

// checkPool asks for a pool, and whether the names stay as they were.
func checkPool(t *testing.T, l []string, want string, begins []int, ok bool) {
	t.Helper()
	had := slices.Clone(l)
	if pool, at, is := Pool(l...); pool != want || !slices.Equal(at, begins) || is != ok {
		t.Errorf("Pool(%q): %q, %v, %t; want %q, %v, %t", had, pool, at, is, want, begins, ok)
	}
	if !slices.Equal(l, had) {
		t.Errorf("Pool(%q) changed it to %q", had, l)
	}
}

// checkNoPool asks for a pool of names that have none.
func checkNoPool(t *testing.T, l ...string) {
	t.Helper()
	checkPool(t, l, "", nil, false)
}

func checkAt(t *testing.T, pool string, at int, want string, ok bool) {
	t.Helper()
	if s, is := At(pool, at); s != want || is != ok {
		t.Errorf("At(%q, %d): %q, %t; want %q, %t", pool, at, s, is, want, ok)
	}
}

// checkEachAt asks a pool at each of its places, and at some that are none, against the slow way.
func checkEachAt(t *testing.T, pool string) {
	t.Helper()
	for at := range len(pool) {
		want, ok := slowAt(pool, at)
		checkAt(t, pool, at, want, ok)
	}
	n := len(pool)
	for _, at := range []int{-1, -2, -3, -4, -n, -n - 1, n, n + 1, n + 2, n + 4, 2 * n, 2*n + 1, 1 << 16, 1 << 31, 1 << 32, -1 << 31, -1 << 32, most, most - 1, most - 3, most - n, least, least + 1, least + 3, least + n} {
		if at < 0 || at >= n {
			checkAt(t, pool, at, "", false)
		}
	}
}

// checkFollows asks for what follows: of a pool of l each name is where it is said to begin, and the same names begin at one place.
func checkFollows(t *testing.T, l []string) {
	t.Helper()
	pool, begins, ok := Pool(l...)
	if !ok {
		t.Errorf("Pool(%q): false", l)
		return
	}
	if len(begins) != len(l) {
		t.Errorf("Pool(%q): %d places", l, len(begins))
		return
	}
	for k, s := range l {
		checkAt(t, pool, begins[k], s, true)
		if first := slices.Index(l, s); begins[first] != begins[k] {
			t.Errorf("Pool(%q): %q is at %d and at %d", l, s, begins[first], begins[k])
		}
	}
}

// filling tells different names that fill so many bytes of a pool, from 4 on.
func filling(n int) []string {
	var l []string
	for k := 0; n > 0; k++ {
		size := min(n, 17)
		// What is left behind must be a name, too, or nothing.
		if left := n - size; left > 0 && left < 4 {
			size -= 4
		}
		number := strconv.Itoa(100 + k)
		l = append(l, number+strings.Repeat("x", size-1-len(number)))
		n -= size
	}
	return l
}

// anyName tells a name of any length, of few different bytes or of many.
func anyName(r *rand.Rand) string {
	from := []string{"Aa", "EST", "+-0", nameBytes}[r.Intn(4)]
	b := make([]byte, 3+r.Intn([]int{1, 2, 14}[r.Intn(3)]))
	for k := range b {
		b[k] = from[r.Intn(len(from))]
	}
	return string(b)
}

// P14.1: texts that are names and such that are none, written out; the lengths at both edges.
func TestRightByHand(t *testing.T) {
	for _, s := range []string{
		"EST", "EDT", "UTC", "LMT", "-00", "+00", "+03", "-03", "+0530", "+1245", "CEST", "AEST", "ChST", "est", "abz", "ABZ", "azAZ09+-", "---", "+++", "000", "123", "+-0", "A-B", "A+B", "9zZ", "ABCD", "ABCDEFGHIJKLMNO", "ABCDEFGHIJKLMNOP", "abcdefghijklmnop", "0123456789012345", "----------------",
	} {
		checkRight(t, s, true)
	}
	for _, s := range wrongNames() {
		checkRight(t, s, false)
	}
}

// P14.1: of each length the same byte, such as may stand in a name and such as may not.
func TestRightOfEachLength(t *testing.T) {
	for n := range 300 {
		for _, c := range []byte("AZaz09+-") {
			checkRight(t, strings.Repeat(string(c), n), n >= 3 && n <= 16)
		}
		for _, c := range []byte(" _.\x00\x7f") {
			checkRight(t, strings.Repeat(string(c), n), false)
		}
	}
}

// P14.1: each byte at each place of names of each length.
func TestRightOfEachByte(t *testing.T) {
	for n := 1; n <= 18; n++ {
		for _, fill := range []byte("Az0+-") {
			b := slices.Repeat([]byte{fill}, n)
			for at := range b {
				for c := range 256 {
					b[at] = byte(c)
					checkRight(t, string(b), n >= 3 && n <= 16 && strings.IndexByte(nameBytes, byte(c)) >= 0)
				}
				b[at] = fill
			}
		}
	}
}

// P14.1: signs beyond ASCII, whole or not, at the beginning, in the middle and at the end: lengths are those of bytes, and no such byte may be.
func TestRightBeyondASCII(t *testing.T) {
	for _, sign := range odd() {
		for _, s := range []string{sign, sign + sign, sign + sign + sign, sign + "ES", "E" + sign + "T", "ES" + sign, sign + "EST", "EST" + sign, "A" + sign, strings.Repeat(sign, 16), "ABCDEFGHIJKLMN" + sign} {
			checkRight(t, s, false)
			checkNoPool(t, s)
			checkNoPool(t, "EST", s)
			checkAt(t, s+"\x00", 0, "", false)
		}
	}
}

// P14.1: any texts of few bytes, against the pattern.
func TestRightOfAnyTexts(t *testing.T) {
	r := rand.New(rand.NewSource(14))
	rights := 0
	for range 50000 {
		b := make([]byte, r.Intn(20))
		for k := range b {
			b[k] = nameBytes[r.Intn(len(nameBytes))]
		}
		if len(b) > 0 && r.Intn(3) == 0 {
			b[r.Intn(len(b))] = byte(r.Intn(256))
		}
		want := rightName.Match(b)
		if want {
			rights++
		}
		checkRight(t, string(b), want)
	}
	// Both must be often enough to say something.
	if rights < 10000 || rights > 45000 {
		t.Errorf("of 50000 texts %d are names", rights)
	}
}

// P14.2: the chapter's example, and names that come once, again, side by side and with others between, written out.
func TestPoolByHand(t *testing.T) {
	for _, x := range []struct {
		l      []string
		want   string
		begins []int
	}{
		{[]string{"EST", "EDT", "EST"}, "EST\x00EDT\x00", []int{0, 4, 0}},
		{[]string{"UTC"}, "UTC\x00", []int{0}},
		{[]string{"ABCDEFGHIJKLMNOP"}, "ABCDEFGHIJKLMNOP\x00", []int{0}},
		{[]string{"EST", "EST"}, "EST\x00", []int{0, 0}},
		{[]string{"EST", "EST", "EST", "EST", "EST"}, "EST\x00", []int{0, 0, 0, 0, 0}},
		{[]string{"LMT", "EST", "EST", "EDT", "EDT", "LMT"}, "LMT\x00EST\x00EDT\x00", []int{0, 4, 4, 8, 8, 0}},
		{[]string{"LMT", "EST", "EDT", "EST", "LMT"}, "LMT\x00EST\x00EDT\x00", []int{0, 4, 8, 4, 0}},
		{[]string{"ZZZ", "AAA", "MMM", "AAA", "ZZZ", "BBB", "MMM"}, "ZZZ\x00AAA\x00MMM\x00BBB\x00", []int{0, 4, 8, 4, 0, 12, 8}},
		{[]string{"+0530", "-00", "+06", "+0530", "-00"}, "+0530\x00-00\x00+06\x00", []int{0, 6, 10, 0, 6}},
		{[]string{"LMT", "+0120", "-0120", "0120"}, "LMT\x00+0120\x00-0120\x000120\x00", []int{0, 4, 10, 16}},
	} {
		checkPool(t, x.l, x.want, x.begins, true)
		checkFollows(t, x.l)
	}
}

// P14.2, W5: no names are none, and an empty pool, nil or not.
func TestPoolOfNoNames(t *testing.T) {
	checkPool(t, nil, "", nil, true)
	checkPool(t, []string{}, "", nil, true)
	checkPool(t, []string{"ES", "EST"}[:0], "", nil, true)
	if pool, begins, ok := Pool(); pool != "" || len(begins) != 0 || !ok {
		t.Errorf("Pool(): %q, %v, %t", pool, begins, ok)
	}
}

// P14.2: a name that is the end, the beginning or the middle of another one, ahead of it or behind it, is one of its own.
func TestPoolOfPartsOfNames(t *testing.T) {
	for _, x := range []struct {
		l      []string
		want   string
		begins []int
	}{
		{[]string{"CEST", "EST"}, "CEST\x00EST\x00", []int{0, 5}},
		{[]string{"EST", "CEST"}, "EST\x00CEST\x00", []int{0, 4}},
		{[]string{"ESTX", "EST"}, "ESTX\x00EST\x00", []int{0, 5}},
		{[]string{"EST", "ESTX"}, "EST\x00ESTX\x00", []int{0, 4}},
		{[]string{"AESTX", "EST", "ESTX", "AEST"}, "AESTX\x00EST\x00ESTX\x00AEST\x00", []int{0, 6, 10, 15}},
		{[]string{"CEST", "EST", "CEST", "EST", "WEST"}, "CEST\x00EST\x00WEST\x00", []int{0, 5, 0, 5, 9}},
		{[]string{"AAAA", "AAA", "AAAAA", "AAA", "AAAA"}, "AAAA\x00AAA\x00AAAAA\x00", []int{0, 5, 9, 5, 0}},
	} {
		checkPool(t, x.l, x.want, x.begins, true)
		checkFollows(t, x.l)
	}
}

// P14.2: great and small letters are others, and so is a name that differs in its last byte, or its first one, alone.
func TestPoolOfNamesThatAreNearlyTheSame(t *testing.T) {
	checkPool(t, []string{"EST", "est", "Est", "ESt", "EST", "est"}, "EST\x00est\x00Est\x00ESt\x00", []int{0, 4, 8, 12, 0, 4}, true)
	checkPool(t, []string{"abcdefghijklmnoP", "abcdefghijklmnop", "Abcdefghijklmnop"}, "abcdefghijklmnoP\x00abcdefghijklmnop\x00Abcdefghijklmnop\x00", []int{0, 17, 34}, true)
	checkPool(t, []string{"+03", "-03", "003", "+04", "+3a"}, "+03\x00-03\x00003\x00+04\x00+3a\x00", []int{0, 4, 8, 12, 16}, true)
}

// P14.2: a name that is not right, at the first place, in the middle and at the last one, alone, twice, and behind names that are right.
func TestPoolOfWrongNames(t *testing.T) {
	for _, wrong := range wrongNames() {
		checkNoPool(t, wrong)
		checkNoPool(t, wrong, wrong)
		checkNoPool(t, wrong, "EST", "EDT")
		checkNoPool(t, "EST", wrong, "EDT")
		checkNoPool(t, "EST", "EDT", wrong)
		checkNoPool(t, "EST", "EST", wrong, "EST")
		checkNoPool(t, "CEST", wrong, wrong, "UTC")
	}
	// What is right stands there already, but is not the same.
	checkNoPool(t, "EST", "ES")
	checkNoPool(t, "EST", "ST")
	checkNoPool(t, "EST", "EST\x00")
	checkNoPool(t, "EST", "EDT", "EST\x00EDT")
	checkNoPool(t, "ABCDEFGHIJKLMNOP", "ABCDEFGHIJKLMNOPQ")
}

// P14.2: a name that is not right, where there would be too much anyway, where there is just enough, and where nothing more has room.
func TestPoolOfWrongNamesAndTooMuch(t *testing.T) {
	for _, wrong := range wrongNames() {
		for _, n := range []int{4, 250, 252, 253, 254, 255, 256, 257, 260, 300} {
			l := filling(n)
			for at := range len(l) + 1 {
				checkNoPool(t, slices.Insert(slices.Clone(l), at, wrong)...)
			}
		}
	}
}

// P14.2: names that fill each count of bytes about 256, of which that is the greatest.
func TestPoolThatIsFull(t *testing.T) {
	for n := 4; n < 600; n++ {
		l := filling(n)
		want := strings.Join(l, "\x00") + "\x00"
		if len(want) != n {
			t.Fatalf("%q are not of %d bytes", l, n)
		}
		if n > 256 {
			checkNoPool(t, l...)
			continue
		}
		_, begins, _ := slowPool(l)
		checkPool(t, l, want, begins, true)
		checkFollows(t, l)
	}
}

// P14.2: of names of each length, as many as there is room for, and one more, whether it is there already or not.
func TestPoolOfAsManyAsMayBe(t *testing.T) {
	for size := 3; size <= 16; size++ {
		var l []string
		for k := range 256 / (size + 1) {
			l = append(l, strconv.Itoa(100+k)+strings.Repeat("z", size-3))
		}
		checkFollows(t, l)
		pool, begins, _ := slowPool(l)
		checkPool(t, l, pool, begins, true)
		for k, s := range l {
			checkPool(t, append(slices.Clone(l), s), pool, append(slices.Clone(begins), begins[k]), true)
		}
		room := 256 - len(pool)
		for n := 3; n <= 16; n++ {
			s := strings.Repeat("y", n)
			if n+1 > room {
				checkNoPool(t, append(slices.Clone(l), s)...)
				// Not that one, but what comes behind it, has been there, or would have had room.
				checkNoPool(t, append(slices.Clone(l), s, l[0])...)
				checkNoPool(t, append(slices.Clone(l), s, "EST")...)
				checkNoPool(t, append([]string{s}, l...)...)
				continue
			}
			checkPool(t, append(slices.Clone(l), s, l[0], s), pool+s+"\x00", append(slices.Clone(begins), len(pool), 0, len(pool)), true)
		}
	}
}

// P14.2: 256 bytes written out; what was there already needs none, wherever it comes again, and one name more is too much.
func TestPoolOfJustEnough(t *testing.T) {
	l := []string{}
	want := ""
	var begins []int
	for k := range 64 {
		begins = append(begins, 4*k)
		l = append(l, "A"+strconv.Itoa(k/10)+strconv.Itoa(k%10))
		want += l[k] + "\x00"
	}
	if len(want) != 256 {
		t.Fatal("not just enough")
	}
	checkPool(t, l, want, begins, true)
	checkPool(t, append(l, "A00", "A63", "A31", "A63"), want, append(begins, 0, 252, 124, 252), true)
	checkPool(t, slices.Concat(l, l, l), want, slices.Concat(begins, begins, begins), true)
	checkPool(t, slices.Concat([]string{"A00", "A00"}, l), want, slices.Concat([]int{0, 0}, begins), true)
	checkNoPool(t, append(l, "A64")...)
	checkNoPool(t, append(l, "a00")...)
	checkNoPool(t, append(l, "A00", "A64")...)
	checkNoPool(t, append(l, "A64", "A00")...)
	checkNoPool(t, append([]string{"A64"}, l...)...)
	// One byte more in one of the names: 257.
	for k := range l {
		longer := slices.Clone(l)
		longer[k] += "x"
		checkNoPool(t, longer...)
	}
	// Of 63 names the last one may have one byte more, but not two bytes over.
	checkPool(t, append(slices.Clone(l[:62]), "A620000"), want[:248]+"A620000\x00", append(slices.Clone(begins[:62]), 248), true)
	checkNoPool(t, append(slices.Clone(l[:62]), "A6200000")...)
}

// P14.2: a list may be as long as it will, if its names come again.
func TestPoolOfManyNames(t *testing.T) {
	l := make([]string, 1<<20)
	for k := range l {
		l[k] = []string{"EST", "EDT", "+0530"}[k%3]
	}
	pool, begins, ok := Pool(l...)
	if pool != "EST\x00EDT\x00+0530\x00" || len(begins) != len(l) || !ok {
		t.Fatalf("%q, %d places, %t", pool, len(begins), ok)
	}
	for k, at := range begins {
		if at != k%3*4 {
			t.Fatalf("place %d: %d", k, at)
		}
	}
	l[len(l)-1] = "ES"
	checkNoPool(t, l...)
}

// P14.2, P14.4: any names, from few that come again often to many that come once, against the slow way.
func TestPoolOfAnyNames(t *testing.T) {
	r := rand.New(rand.NewSource(142))
	rights := 0
	for range 5000 {
		some := make([]string, 1+r.Intn(40))
		for k := range some {
			some[k] = anyName(r)
		}
		if r.Intn(2) == 0 {
			some[r.Intn(len(some))] = wrongNames()[r.Intn(len(wrongNames()))]
		}
		l := make([]string, r.Intn(80))
		for k := range l {
			l[k] = some[r.Intn(len(some))]
		}
		pool, begins, ok := slowPool(l)
		checkPool(t, l, pool, begins, ok)
		if ok {
			rights++
			checkFollows(t, l)
			checkEachAt(t, pool)
		}
	}
	// Both must be often enough to say something.
	if rights < 1000 || rights > 4000 {
		t.Errorf("of 5000 lists %d have a pool", rights)
	}
}

// P14.2: all lists of up to four of some names: parts of each other, nearly the same, and one that is none.
func TestPoolOfAllShortLists(t *testing.T) {
	from := []string{"EST", "CEST", "ESTC", "est", "+03", "ES"}
	var grow func(l []string, left int)
	grow = func(l []string, left int) {
		pool, begins, ok := slowPool(l)
		checkPool(t, l, pool, begins, ok)
		if left == 0 {
			return
		}
		for _, s := range from {
			grow(append(slices.Clone(l), s), left-1)
		}
	}
	grow(nil, 4)
}

// P14.3: each place of a pool, written out: the beginning of a name, its middle, where fewer than three bytes are left, the byte 0 itself.
func TestAtByHand(t *testing.T) {
	pool := "LMT\x00CEST\x00+0530\x00"
	for at, want := range []string{"LMT", "", "", "", "CEST", "EST", "", "", "", "+0530", "0530", "530", "", "", ""} {
		checkAt(t, pool, at, want, want != "")
	}
	for at := -20; at < 0; at++ {
		checkAt(t, pool, at, "", false)
	}
	for at := len(pool); at < 40; at++ {
		checkAt(t, pool, at, "", false)
	}
	checkEachAt(t, pool)
}

// P14.3: pools that no Pool makes: without a byte 0 at the end, with more than one, empty, with names that are too short, too long, or hold another byte.
func TestAtOfOtherPools(t *testing.T) {
	for _, x := range []struct {
		pool string
		at   int
		want string
	}{
		{"EST", 0, ""}, {"EST", 1, ""}, {"EST\x00EDT", 0, "EST"}, {"EST\x00EDT", 4, ""}, {"EST\x00EDT", 5, ""}, {"EST\x00EDT\x00x", 4, "EDT"}, {"EST\x00EDT\x00x", 8, ""}, {strings.Repeat("A", 300), 0, ""}, {strings.Repeat("A", 300), 290, ""},
		{"", 0, ""}, {"", 1, ""}, {"", -1, ""}, {"\x00", 0, ""}, {"\x00", 1, ""}, {"\x00\x00\x00\x00\x00", 0, ""}, {"\x00\x00\x00\x00\x00", 2, ""}, {"\x00EST\x00", 0, ""}, {"\x00EST\x00", 1, "EST"}, {"\x00\x00EST\x00\x00", 2, "EST"}, {"\x00\x00EST\x00\x00", 5, ""},
		{"ES\x00", 0, ""}, {"E\x00", 0, ""}, {"ES\x00EST\x00", 0, ""}, {"ES\x00EST\x00", 3, "EST"}, {"EST\x00", 0, "EST"},
		{"ABCDEFGHIJKLMNOP\x00", 0, "ABCDEFGHIJKLMNOP"}, {"ABCDEFGHIJKLMNOPQ\x00", 0, ""}, {"ABCDEFGHIJKLMNOPQ\x00", 1, "BCDEFGHIJKLMNOPQ"}, {"ABCDEFGHIJKLMNOPQ\x00", 14, "OPQ"}, {"ABCDEFGHIJKLMNOPQ\x00", 15, ""}, {"ABCDEFGHIJKLMNOPQ\x00", 17, ""}, {strings.Repeat("A", 300) + "\x00", 283, ""}, {strings.Repeat("A", 300) + "\x00", 284, "AAAAAAAAAAAAAAAA"}, {strings.Repeat("A", 300) + "\x00", 297, "AAA"}, {strings.Repeat("A", 300) + "\x00", 298, ""},
		{"E T\x00", 0, ""}, {"E_T\x00", 0, ""}, {"EST \x00", 0, ""}, {" EST\x00", 0, ""}, {" EST\x00", 1, "EST"}, {"E TEST\x00", 1, ""}, {"E TEST\x00", 2, "TEST"}, {"EST\n\x00", 0, ""}, {"ES\xff\x00", 0, ""}, {"\u00c4ST\x00", 0, ""}, {"\u00c4EST\x00", 1, ""}, {"\u00c4EST\x00", 2, "EST"}, {"<+03>\x00", 0, ""}, {"<+03>\x00", 1, ""}, {"\\0EST\x00", 2, "EST"}, {"EST0", 0, ""}, {"EST\xc0\x80", 0, ""}, {"EST\u0100\x00", 0, ""},
	} {
		checkAt(t, x.pool, x.at, x.want, x.want != "")
		checkEachAt(t, x.pool)
	}
}

// P14.3: places that are none, of pools that hold names: also such as differ from a right one by 2^32 or 2^8 alone, or count from the end.
func TestAtOfOtherPlaces(t *testing.T) {
	for _, pool := range []string{"EST\x00", "EST\x00EDT\x00", strings.Repeat("EST\x00", 64), ""} {
		for _, at := range []int{-1, -2, -3, -4, -8, -256, -len(pool), 256, 260, len(pool), len(pool) + 1, len(pool) + 4, 1 << 8, 1 << 16, 1 << 32, 1<<32 + 4, 1 << 62, -1 << 32, -1<<32 + 4, most, most - 1, most - 3, least, least + 1, least + 4} {
			if at < 0 || at >= len(pool) {
				checkAt(t, pool, at, "", false)
			}
		}
	}
}

// P14.3: each byte at each place of a pool, asked at each place.
func TestAtOfEachByte(t *testing.T) {
	b := []byte("LMT\x00CEST\x00-00\x00")
	for k := range b {
		had := b[k]
		for c := range 256 {
			b[k] = byte(c)
			pool := string(b)
			for at := -1; at <= len(pool); at++ {
				want, ok := slowAt(pool, at)
				checkAt(t, pool, at, want, ok)
			}
		}
		b[k] = had
	}
}

// P14.3: any bytes, many of them 0 or such as stand in names, at each place against the slow way.
func TestAtOfAnyPools(t *testing.T) {
	r := rand.New(rand.NewSource(143))
	names := 0
	for range 3000 {
		b := make([]byte, r.Intn(60))
		for k := range b {
			switch r.Intn(8) {
			case 0:
				b[k] = 0
			case 1:
				b[k] = byte(r.Intn(256))
			default:
				b[k] = nameBytes[r.Intn(len(nameBytes))]
			}
		}
		checkEachAt(t, string(b))
		for at := range b {
			if _, ok := slowAt(string(b), at); ok {
				names++
			}
		}
	}
	// They must be often enough to say something.
	if names < 5000 {
		t.Errorf("just %d names", names)
	}
}

// P14.3: pools that are greater than Pool makes them, with many names or none.
func TestAtOfGreatPools(t *testing.T) {
	great := strings.Repeat("EST\x00", 1<<20)
	for _, k := range []int{0, 1, 63, 64, 65, 1 << 10, 1<<20 - 1} {
		checkAt(t, great, 4*k, "EST", true)
		checkAt(t, great, 4*k+1, "", false)
		checkAt(t, great, 4*k+3, "", false)
	}
	checkAt(t, great, len(great), "", false)
	long := strings.Repeat("A", 1<<22)
	checkAt(t, long, 0, "", false)
	checkAt(t, long+"\x00", 0, "", false)
	checkAt(t, long+"\x00", 1<<22-16, "AAAAAAAAAAAAAAAA", true)
	checkAt(t, long+"\x00", 1<<22-17, "", false)
}

// P14.4: each name of which there is a pool is found where it is said to begin, alone, twice and among others: of each length, of each byte.
func TestEachNameIsWhereItBegins(t *testing.T) {
	for n := 3; n <= 16; n++ {
		for _, c := range []byte(nameBytes) {
			s := strings.Repeat(string(c), n)
			checkFollows(t, []string{s})
			checkFollows(t, []string{s, s})
			checkFollows(t, []string{"LMT", s, "E1T", s, "LMT"})
		}
	}
}

// P14.4: the names of a pool, read one behind the other, are those of the list, each once, as they came; their pool is the same.
func TestPoolsAreReadAgain(t *testing.T) {
	r := rand.New(rand.NewSource(144))
	for range 2000 {
		l := make([]string, r.Intn(12))
		for k := range l {
			l[k] = anyName(r)
		}
		pool, _, ok := Pool(l...)
		if !ok {
			t.Fatalf("Pool(%q): false", l)
		}
		var once, want []string
		for k, s := range l {
			if slices.Index(l, s) == k {
				want = append(want, s)
			}
		}
		for at := 0; at < len(pool); {
			s, ok := At(pool, at)
			if !ok {
				t.Fatalf("At(%q, %d): false", pool, at)
			}
			once = append(once, s)
			at += len(s) + 1
		}
		if !slices.Equal(once, want) {
			t.Errorf("%q was read as %q", l, once)
		}
		if again, _, _ := Pool(once...); again != pool {
			t.Errorf("%q, and again %q", pool, again)
		}
	}
}

// W6: what is handed in stays as it was, with its spare room and what stands ahead of it, whether there is a pool or not.
func TestNothingIsChanged(t *testing.T) {
	for _, l := range [][]string{{}, {"EST"}, {"EST", "EDT", "EST"}, {"EDT", "EST", "ES"}, {"ES", "EST"}, filling(256), filling(257)} {
		for _, room := range []int{0, 1, 3, 100} {
			whole := slices.Concat([]string{"ahead"}, l, slices.Repeat([]string{"spare"}, room))
			had := slices.Clone(whole)
			some := whole[1 : 1+len(l)]
			_, first, _ := Pool(some...)
			_, second, _ := Pool(some...)
			if !slices.Equal(whole, had) {
				t.Errorf("%q became %q", had, whole)
			}
			want := slices.Clone(second)
			first = first[:cap(first)]
			for k := range first {
				first[k] = -9
			}
			if !slices.Equal(second, want) {
				t.Errorf("two answers of Pool(%q) share their places", l)
			}
		}
	}
}

// W6, W2: the list may be changed behind the call, and the answer stays; nor does a call know of an earlier one.
func TestNothingIsKept(t *testing.T) {
	l := []string{"EST", "EDT", "EST"}
	pool, begins, _ := Pool(l...)
	l[0], l[1], l[2] = "ES", "UTC", "LMT"
	if pool != "EST\x00EDT\x00" || !slices.Equal(begins, []int{0, 4, 0}) {
		t.Errorf("%q, %v", pool, begins)
	}
	checkPool(t, []string{"EDT", "EST"}, "EDT\x00EST\x00", []int{0, 4}, true)
	checkNoPool(t, "EDT", "ES")
	checkPool(t, []string{"EST"}, "EST\x00", []int{0}, true)
}

// shares tells whether two texts that are not empty share memory.
func shares(a, b string) bool {
	first, second := uintptr(unsafe.Pointer(unsafe.StringData(a))), uintptr(unsafe.Pointer(unsafe.StringData(b)))
	return first < second+uintptr(len(b)) && second < first+uintptr(len(a))
}

// W6: neither is a pool a piece of a name, nor a name a piece of its pool.
func TestTextsShareNothing(t *testing.T) {
	r := rand.New(rand.NewSource(6))
	for range 200 {
		l := []string{strings.Clone(anyName(r)), strings.Clone(anyName(r))}
		pool, begins, _ := Pool(l...)
		for k, s := range l {
			name, _ := At(pool, begins[k])
			if shares(pool, s) || shares(name, s) || shares(name, pool) {
				t.Errorf("%q, %q and %q share memory", pool, s, name)
			}
		}
	}
	one := strings.Clone("EST")
	if pool, _, _ := Pool(one); shares(pool, one) {
		t.Errorf("%q and %q share memory", pool, one)
	}
	if pool := strings.Clone("EST\x00"); !shares(pool, pool[:3]) {
		t.Error("what shares memory is not seen")
	}
}

// W2: calls at the same time, of the same names, do not touch each other; the same call tells the same again.
func TestCallsAtTheSameTime(t *testing.T) {
	l := filling(256)
	l = append(l, l...)
	pool, begins, _ := Pool(l...)
	var all sync.WaitGroup
	for k := range 16 {
		all.Go(func() {
			for range 200 {
				x, places, ok := Pool(l...)
				if x != pool || !slices.Equal(places, begins) || !ok {
					t.Errorf("%q, %v, %t, at the same time as others", x, places, ok)
				}
				if s, ok := At(x, places[k]); s != l[k] || !ok {
					t.Errorf("%q, %t, at the same time as others", s, ok)
				}
				clear(places)
			}
		})
	}
	all.Wait()
}

// W1, P14.1 to P14.4: whatever names, pool and place.
func FuzzAbbr(f *testing.F) {
	for _, s := range []string{"", "EST\x00EDT\x00EST\x00", "EST", "LMT\x00CEST\x00-00\x00", "E T\x00EST", strings.Join(filling(256), "\x00"), strings.Join(filling(257), "\x00"), "\xff\x00\u00c4ST\x00"} {
		for _, at := range []int{0, 1, 4, -1, len(s), most, least} {
			f.Add(s, at)
		}
	}
	f.Fuzz(func(t *testing.T, s string, at int) {
		checkRight(t, s, rightName.MatchString(s))
		want, ok := slowAt(s, at)
		checkAt(t, s, at, want, ok)
		checkEachAt(t, s)
		l := strings.Split(s, "\x00")
		// What ends with a byte 0 has no name behind it.
		if l[len(l)-1] == "" {
			l = l[:len(l)-1]
		}
		pool, begins, ok := slowPool(l)
		checkPool(t, l, pool, begins, ok)
		if ok {
			checkFollows(t, l)
			checkEachAt(t, pool)
		}
	})
}
