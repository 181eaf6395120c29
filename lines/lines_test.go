package lines

import (
	"math/big"
	"slices"
	"strconv"
	"strings"
	"testing"

	"epact/api"
)

// greatest is MaxInt in decimals.
const greatest = "9223372036854775807"

// odd are signs of more than one byte, and bytes that are no sign of UTF-8: among them blanks, line ends, digits and letters of other scripts, signs whose lowest byte is a blank, a line feed, a digit or a letter, long forms of these, and signs that are cut off.
func odd() []string {
	return []string{
		"\u0080", "\u0085", "\u00a0", "\u1680", "\u2002", "\u2009", "\u2028", "\u2029", "\u202f", "\u3000", "\ufeff", "\ufffd",
		"\u0109", "\u010a", "\u010d", "\u0120", "\u0130", "\u0131", "\u0139", "\u0141", "\u015a", "\u0161", "\u2020", "\u200a", "\u200d", "\U00010020", "\U0001000a",
		"\u0660", "\u0663", "\u06f1", "\u00b2", "\u0966", "\uff10", "\uff11", "\U0001d7ce", "\U0001d7d9",
		"\u00c4", "\u00e4", "\u00df", "\u0391", "\u0410", "\u1e9e", "\u212a", "\uff21", "\uff3a", "\U00010400",
		"\x80", "\x8a", "\x89", "\xa0", "\xb0", "\xc1", "\xc4", "\xda", "\xe1", "\xff", "\xc0\x80", "\xc0\x89", "\xc0\x8a", "\xc0\x8d", "\xc0\xa0", "\xc0\xb1", "\xc1\x81", "\xe0\x80\x8a", "\xe0\x80\xa0", "\xf0\x80\x80\xb1", "\xed\xa0\x80", "\xf4\x90\x80\x80", "\xc2", "\xe2\x80", "\xf0\x9d\x9f",
	}
}

// texts goes through all texts of at most that many of the pieces, one behind the other.
func texts(pieces []string, most int, do func(s string)) {
	var grow func(s string, left int)
	grow = func(s string, left int) {
		do(s)
		if left == 0 {
			return
		}
		for _, p := range pieces {
			grow(s+p, left-1)
		}
	}
	grow("", most)
}

// split tells lines byte by byte, as P5.1 says them.
func split(s string) []string {
	var all []string
	line := []byte{}
	for k := range len(s) {
		last := k+1 == len(s)
		switch {
		case s[k] == 10:
			all = append(all, string(line))
			line = line[:0]
		case s[k] == 13 && (last || s[k+1] == 10):
		default:
			line = append(line, s[k])
		}
		if last && s[k] != 10 {
			all = append(all, string(line))
		}
	}
	return all
}

// words tells words by where each begins, and how far it goes, as chapter 5 says what one is.
func words(s string) []string {
	blank := func(k int) bool { return k < 0 || k >= len(s) || s[k] == 32 || s[k] == 9 }
	var all []string
	for from := range len(s) {
		if blank(from) || !blank(from-1) {
			continue
		}
		to := from
		for !blank(to) {
			to++
		}
		all = append(all, s[from:to])
	}
	return all
}

// cut tries each place from the front, as P5.3 says it.
func cut(s, at string) (string, string, bool) {
	for k := 0; at != "" && k+len(at) <= len(s); k++ {
		if s[k:k+len(at)] == at {
			return s[:k], s[k+len(at):], true
		}
	}
	return s, "", false
}

// small tells a byte as P5.3 folds it.
func small(b byte) byte {
	if b >= 65 && b <= 90 {
		return b + 32
	}
	return b
}

func checkSplit(t *testing.T, s string, want []string) {
	t.Helper()
	if l := Split(s); !slices.Equal(l, want) {
		t.Errorf("Split(%q): %q; want %q", s, l, want)
	}
}

func checkWords(t *testing.T, s string, want []string) {
	t.Helper()
	if l := Words(s); !slices.Equal(l, want) {
		t.Errorf("Words(%q): %q; want %q", s, l, want)
	}
}

func checkNumber(t *testing.T, s string, want int, fits bool) {
	t.Helper()
	if n, ok := Number(s); n != want || ok != fits {
		t.Errorf("Number(%q): %d, %v; want %d, %v", s, n, ok, want, fits)
	}
}

func checkCut(t *testing.T, s, at, ahead, behind string, found bool) {
	t.Helper()
	if a, b, ok := Cut(s, at); a != ahead || b != behind || ok != found {
		t.Errorf("Cut(%q, %q): %q, %q, %v; want %q, %q, %v", s, at, a, b, ok, ahead, behind, found)
	}
}

func checkFold(t *testing.T, s, want string) {
	t.Helper()
	if f := Fold(s); f != want {
		t.Errorf("Fold(%q): %q; want %q", s, f, want)
	}
}

// P5.1: written out: the ends of texts, line feeds one behind the other, and bytes 13 at each kind of place.
func TestSplitByHand(t *testing.T) {
	for s, want := range map[string][]string{
		"": nil, "a": {"a"}, "a\n": {"a"}, "a\nb": {"a", "b"}, "a\nb\n": {"a", "b"}, "one two\n\tthree \n": {"one two", "\tthree "},
		"\n": {""}, "\n\n": {"", ""}, "\n\n\n": {"", "", ""}, "\na": {"", "a"}, "a\n\nb": {"a", "", "b"}, "a\n\n": {"a", ""}, "\n\na\n\n\nb": {"", "", "a", "", "", "b"},
		"\r": {""}, "\r\n": {""}, "\n\r": {"", ""}, "\r\n\r": {"", ""}, "\r\n\r\n": {"", ""}, "\r\r": {"\r"}, "\r\r\n": {"\r"}, "\r\r\r\n": {"\r\r"},
		"a\r": {"a"}, "a\r\n": {"a"}, "a\r\nb\r": {"a", "b"}, "a\r\n\nb": {"a", "", "b"}, "a\n\r\nb": {"a", "", "b"}, "a\n\rb": {"a", "\rb"}, "a\n\r": {"a", ""},
		"a\rb": {"a\rb"}, "a\rb\n": {"a\rb"}, "\ra": {"\ra"}, "\ra\r\n": {"\ra"}, "a\r\r": {"a\r"}, "a\r\r\n": {"a\r"}, "a\r\r\nb\r\r": {"a\r", "b\r"}, "a\r \n": {"a\r "},
		" ": {" "}, "\t\n ": {"\t", " "}, "a\vb\fc": {"a\vb\fc"}, "\x00\n\x00": {"\x00", "\x00"}, `a\nb`: {`a\nb`},
		"2272060800\t10\t# 1 Jan 1972\r\n#h\tabc\r\n": {"2272060800\t10\t# 1 Jan 1972", "#h\tabc"},
	} {
		checkSplit(t, s, want)
	}
}

// P5.1: all short texts of the bytes that count, and of one that does not.
func TestSplitOfShortTexts(t *testing.T) {
	texts([]string{"\n", "\r", "a", "\xff"}, 8, func(s string) { checkSplit(t, s, split(s)) })
}

// P5.1: each other byte is a line's own.
func TestSplitOfEachByte(t *testing.T) {
	for b := range 256 {
		one := string([]byte{byte(b)})
		for _, s := range []string{one, one + one, one + "\n", "\n" + one, "a" + one + "b", one + "\r\n", "\r" + one, "a\n" + one + "\nb"} {
			checkSplit(t, s, split(s))
		}
		if b != 10 && b != 13 {
			checkSplit(t, "a"+one+"b\n"+one, []string{"a" + one + "b", one})
		}
	}
}

// P5.1: signs of more than one byte, and bytes that are none, stay in their lines.
func TestSplitOfOddTexts(t *testing.T) {
	for _, sign := range odd() {
		checkSplit(t, sign, []string{sign})
		checkSplit(t, sign+"\n"+sign, []string{sign, sign})
		checkSplit(t, sign+"\r\n"+sign+"\r", []string{sign, sign})
		checkSplit(t, "a"+sign+"b\n\n"+sign+"\n", []string{"a" + sign + "b", "", sign})
		checkSplit(t, "\r"+sign+"\r\r\n", []string{"\r" + sign + "\r"})
	}
	texts([]string{"\n", "\r", "\u00e4", "\u010a", "\xc4", "\x8a"}, 5, func(s string) { checkSplit(t, s, split(s)) })
}

// P5.1: a text of many lines, and one of a line that is long.
func TestSplitOfLongTexts(t *testing.T) {
	const many = 200000
	l := Split(strings.Repeat("a b\r\n", many))
	if len(l) != many || l[0] != "a b" || l[many-1] != "a b" {
		t.Errorf("Split of %d lines: %d", many, len(l))
	}
	if l = Split(strings.Repeat("\n", many)); len(l) != many || l[many-1] != "" {
		t.Errorf("Split of %d line feeds: %d lines", many, len(l))
	}
	long := strings.Repeat("\r", many)
	checkSplit(t, long, []string{long[1:]})
}

// P5.2: written out: blanks ahead, behind and between, spaces and tabs.
func TestWordsByHand(t *testing.T) {
	for s, want := range map[string][]string{
		"": nil, " ": nil, "\t": nil, " \t ": nil, "\t\t  \t": nil,
		"a": {"a"}, " a": {"a"}, "a ": {"a"}, " a ": {"a"}, "\ta": {"a"}, "a\t": {"a"}, "\t a \t": {"a"}, "abc": {"abc"},
		"a b": {"a", "b"}, "a\tb": {"a", "b"}, " a\t b": {"a", "b"}, "a  b": {"a", "b"}, "a \t\t b": {"a", "b"}, " a\tb  c\t": {"a", "b", "c"}, "b a b": {"b", "a", "b"},
		"a\nb c": {"a\nb", "c"}, "a\r b": {"a\r", "b"}, "\n": {"\n"}, "\r\n": {"\r\n"}, " \n ": {"\n"}, "a\vb\fc": {"a\vb\fc"}, "\v \f": {"\v", "\f"}, "\x00 \x00": {"\x00", "\x00"}, "a\\tb": {"a\\tb"},
		"Leap\t2016\tDec\t31\t23:59:60\t+\tS":  {"Leap", "2016", "Dec", "31", "23:59:60", "+", "S"},
		"  2272060800      10    # 1 Jan 1972": {"2272060800", "10", "#", "1", "Jan", "1972"},
	} {
		checkWords(t, s, want)
	}
}

// P5.2: all short texts of blanks, and of bytes that are none.
func TestWordsOfShortTexts(t *testing.T) {
	texts([]string{" ", "\t", "a", "\xa0"}, 8, func(s string) { checkWords(t, s, words(s)) })
}

// P5.2: no byte but these two is a blank.
func TestWordsOfEachByte(t *testing.T) {
	for b := range 256 {
		one := string([]byte{byte(b)})
		want := []string{"a" + one + "b", one, one + one}
		if b == 32 || b == 9 {
			want = []string{"a", "b"}
		}
		checkWords(t, "a"+one+"b "+one+"\t"+one+one, want)
		for _, s := range []string{one, " " + one, one + " ", "a" + one, one + "a"} {
			checkWords(t, s, words(s))
		}
	}
}

// P5.2: signs of more than one byte, blanks of other scripts among them, and bytes that are none, are a word's own.
func TestWordsOfOddTexts(t *testing.T) {
	for _, sign := range odd() {
		checkWords(t, sign, []string{sign})
		checkWords(t, " "+sign+"\t", []string{sign})
		checkWords(t, sign+" "+sign+"\t"+sign+sign, []string{sign, sign, sign + sign})
		checkWords(t, "a"+sign+"b "+sign+"c d"+sign, []string{"a" + sign + "b", sign + "c", "d" + sign})
	}
	texts([]string{" ", "\t", "\u00e4", "\u0120", "\xe2", "\x80"}, 5, func(s string) { checkWords(t, s, words(s)) })
}

// P5.2: each number comes back from its decimals, with noughts ahead too.
func TestNumberByHand(t *testing.T) {
	for s, want := range map[string]int{
		"0": 0, "1": 1, "7": 7, "9": 9, "10": 10, "42": 42, "99": 99, "100": 100, "1234567890": 1234567890, "2272060800": 2272060800, "9876543210": 9876543210,
		"00": 0, "01": 1, "007": 7, "0042": 42, "010": 10, "08": 8, "00000000000000000000000005": 5, strings.Repeat("0", 1000): 0, strings.Repeat("0", 1000) + "12": 12,
		"999999999999999999": 999999999999999999, "1000000000000000000": 1000000000000000000, "9223372036854775799": 9223372036854775799, "9223372036854775800": 9223372036854775800, "9223372036854775806": 9223372036854775806,
		greatest: api.MaxInt, "0" + greatest: api.MaxInt, strings.Repeat("0", 100) + greatest: api.MaxInt,
	} {
		checkNumber(t, s, want, true)
	}
	for n := range 100000 {
		checkNumber(t, strconv.Itoa(n), n, true)
		checkNumber(t, "000"+strconv.Itoa(n), n, true)
	}
}

// P5.2: above MaxInt: one more, and those that would go round to 0, to something small, or to themselves.
func TestNumberOfTooGreatOnes(t *testing.T) {
	for _, s := range []string{
		"9223372036854775808", "9223372036854775809", "9223372036854775810", "9223372036854775817", "9223372036854775900", "9300000000000000000", "9999999999999999999", "10000000000000000000",
		"18446744073709551615", "18446744073709551616", "18446744073709551617", "18446744073709551621", "36893488147419103232", "92233720368547758070", "92233720368547758080", "99999999999999999999", "184467440737095516160", "340282366920938463463374607431768211456",
		"09223372036854775808", strings.Repeat("0", 100) + "9223372036854775808", greatest + "0", greatest + greatest, "1" + strings.Repeat("0", 64), strings.Repeat("9", 1000), "1" + strings.Repeat("0", 1000000),
	} {
		checkNumber(t, s, 0, false)
	}
}

// P5.2: about powers of two and of ten, held against numbers of any size.
func TestNumberIsExact(t *testing.T) {
	check := func(n *big.Int) {
		want := 0
		if n.IsInt64() {
			want = int(n.Int64())
		}
		checkNumber(t, n.String(), want, n.IsInt64())
	}
	for _, base := range []int64{2, 3, 7, 10} {
		power := big.NewInt(1)
		for power.BitLen() < 140 {
			for d := int64(-20); d <= 20; d++ {
				if n := new(big.Int).Add(power, big.NewInt(d)); n.Sign() >= 0 {
					check(n)
				}
			}
			power = new(big.Int).Mul(power, big.NewInt(base))
		}
	}
}

// P5.2: what is no number: empty, with a sign, a blank, or what numbers of programs may have.
func TestNumberOfWrongTexts(t *testing.T) {
	for _, s := range []string{
		"", " ", "\t", "\n", "-", "+", "-1", "+1", "-0", "+0", "--1", "1-", "1+", "-" + greatest, "-9223372036854775808", " 1", "1 ", "\t1", "1\t", "1\n", "\n1", "1\r", "1 2", "1\t2",
		"a", "1a", "a1", "0x1", "0X1f", "0b1", "0o7", "1_000", "1,000", "1.0", "1.", ".1", "1e3", "1E3", "1:2", "1/2", "(1)", "\"1\"", "inf", "nan", "\x00", "1\x00", "\x001",
		greatest + " ", " " + greatest, greatest + "a", "a" + greatest, strings.Repeat("9", 1000) + "a", "a" + strings.Repeat("9", 1000),
	} {
		checkNumber(t, s, 0, false)
	}
}

// P5.2: each byte at each place: only digits make a number, and each makes its own.
func TestNumberOfOneOtherByte(t *testing.T) {
	for _, s := range []string{"0", "7", "42", "0042", "2272060800", "1000000000000000000", greatest, strings.Repeat("0", 30) + "5"} {
		for k := range s {
			for b := range 256 {
				u := s[:k] + string([]byte{byte(b)}) + s[k+1:]
				longer := s[:k] + string([]byte{byte(b)}) + s[k:]
				if b < '0' || b > '9' {
					checkNumber(t, u, 0, false)
					checkNumber(t, longer, 0, false)
					checkNumber(t, s+string([]byte{byte(b)}), 0, false)
					continue
				}
				n, _ := new(big.Int).SetString(u, 10)
				want := 0
				if n.IsInt64() {
					want = int(n.Int64())
				}
				checkNumber(t, u, want, n.IsInt64())
			}
		}
	}
}

// P5.2: digits of other scripts, other signs, and bytes that are none of UTF-8, alone and at each place.
func TestNumberOfOddTexts(t *testing.T) {
	for _, sign := range odd() {
		checkNumber(t, sign, 0, false)
		checkNumber(t, strings.Repeat(sign, 30), 0, false)
		for _, s := range []string{"7", "42", greatest} {
			for k := 0; k <= len(s); k++ {
				checkNumber(t, s[:k]+sign+s[k:], 0, false)
				if k < len(s) {
					checkNumber(t, s[:k]+sign+s[k+1:], 0, false)
				}
			}
		}
	}
}

// P5.3: written out: at the beginning, at the end, more than once, one that overlaps itself, an empty one, and none.
func TestCutByHand(t *testing.T) {
	for _, x := range []struct {
		s, at, ahead, behind string
		ok                   bool
	}{
		{"a, b, c", ", ", "a", "b, c", true}, {"a#b", "#", "a", "b", true}, {"#b", "#", "", "b", true}, {"a#", "#", "a", "", true}, {"#", "#", "", "", true}, {"abc", "abc", "", "", true},
		{"xx", "x", "", "x", true}, {"axbxcx", "x", "a", "bxcx", true}, {"##", "#", "", "#", true}, {"a##b", "##", "a", "b", true}, {"a###b", "##", "a", "#b", true},
		{"aaa", "aa", "", "a", true}, {"aaaa", "aa", "", "aa", true}, {"ababac", "abac", "ab", "", true}, {"abababa", "aba", "", "baba", true}, {"aab", "ab", "a", "", true}, {"aaab", "aab", "a", "", true},
		{"abc", "x", "abc", "", false}, {"abc", "ac", "abc", "", false}, {"abc", "cb", "abc", "", false}, {"ab", "abc", "ab", "", false}, {"bc", "abc", "bc", "", false}, {"ab", "ba", "ab", "", false}, {"abc", "B", "abc", "", false}, {"", "x", "", "", false}, {"", "xyz", "", "", false},
		{"abc", "", "abc", "", false}, {"a", "", "a", "", false}, {"", "", "", "", false}, {"\n", "", "\n", "", false},
		{"a\nb\n", "\n", "a", "b\n", true}, {" a ", " ", "", "a ", true}, {"\x00a\x00", "\x00", "", "a\x00", true}, {"a b", "\t", "a b", "", false}, {"a.b", "[.]", "a.b", "", false}, {"abc", ".", "abc", "", false}, {"abc", "*", "abc", "", false},
	} {
		checkCut(t, x.s, x.at, x.ahead, x.behind, x.ok)
	}
}

// P5.3: all short texts, cut at all short ones.
func TestCutOfShortTexts(t *testing.T) {
	for _, pieces := range [][]string{{"a", "b"}, {"\xc4", "\xa4"}} {
		texts(pieces, 8, func(s string) {
			texts(pieces, 5, func(at string) {
				ahead, behind, ok := cut(s, at)
				checkCut(t, s, at, ahead, behind, ok)
			})
		})
	}
}

// P5.3: bytes are held against bytes, also where a sign of more than one is cut in two, and where signs look alike.
func TestCutOfOddTexts(t *testing.T) {
	for _, sign := range odd() {
		checkCut(t, sign, sign, "", "", true)
		checkCut(t, "a"+sign+"b"+sign, sign, "a", "b"+sign, true)
		checkCut(t, sign+"#"+sign+"#", "#", sign, sign+"#", true)
		checkCut(t, sign, "", sign, "", false)
		checkCut(t, sign, "x", sign, "", false)
		checkCut(t, "abc", sign, "abc", "", false)
		for _, other := range odd() {
			s := "a" + sign + "b"
			ahead, behind, ok := cut(s, other)
			checkCut(t, s, other, ahead, behind, ok)
		}
	}
	checkCut(t, "a\u00e4b", "\xa4", "a\xc3", "b", true)
	checkCut(t, "a\u00e4b", "\xc3", "a", "\xa4b", true)
	checkCut(t, "a\xffb", "\ufffd", "a\xffb", "", false)
	checkCut(t, "a\ufffdb", "\xff", "a\ufffdb", "", false)
	checkCut(t, "a\xfeb", "\xff", "a\xfeb", "", false)
	checkCut(t, "a\xfe\xffb", "\xff", "a\xfe", "b", true)
}

// P5.3: texts that are long: at the very end, and none.
func TestCutOfLongTexts(t *testing.T) {
	long := strings.Repeat("a", 100000)
	checkCut(t, long+"b", "b", long, "", true)
	checkCut(t, long+"b", "aaab", long[3:], "", true)
	checkCut(t, long, "b", long, "", false)
	checkCut(t, long, long+"a", long, "", false)
	checkCut(t, long, long, "", "", true)
}

// P5.3: written out: both sides of A and Z, a and z.
func TestFoldByHand(t *testing.T) {
	for s, want := range map[string]string{
		"": "", "A": "a", "Z": "z", "a": "a", "z": "z", "@": "@", "[": "[", "`": "`", "{": "{", "AZaz@[`{": "azaz@[`{",
		"ABCDEFGHIJKLMNOPQRSTUVWXYZ": "abcdefghijklmnopqrstuvwxyz", "abcdefghijklmnopqrstuvwxyz": "abcdefghijklmnopqrstuvwxyz",
		"Leap": "leap", "EXPIRES": "expires", "rOLLING": "rolling", "Dec 31 23:59:60 + S\r\n": "dec 31 23:59:60 + s\r\n", " \t\n": " \t\n", "0123456789": "0123456789", "\x00A\x00": "\x00a\x00",
	} {
		checkFold(t, s, want)
	}
}

// P5.3: each byte, alone and between others, and each two: no other one is changed, none is lost.
func TestFoldOfEachByte(t *testing.T) {
	var all, want []byte
	for k := range 256 {
		a := byte(k)
		checkFold(t, string([]byte{a}), string([]byte{small(a)}))
		checkFold(t, string([]byte{'A', a, 'z'}), string([]byte{'a', small(a), 'z'}))
		for n := range 256 {
			b := byte(n)
			checkFold(t, string([]byte{a, b}), string([]byte{small(a), small(b)}))
		}
		all, want = append(all, a), append(want, small(a))
	}
	checkFold(t, strings.Repeat(string(all), 100), strings.Repeat(string(want), 100))
}

// P5.3: letters of other scripts, other signs, and bytes that are none of UTF-8 stay as they are.
func TestFoldOfOddTexts(t *testing.T) {
	for _, sign := range odd() {
		checkFold(t, sign, sign)
		checkFold(t, sign+sign, sign+sign)
		checkFold(t, "A"+sign+"Z", "a"+sign+"z")
		checkFold(t, sign+"M"+sign, sign+"m"+sign)
	}
}

// P5.4: lines, with a line feed behind each, are split as they were, and so with a byte 13 ahead of it; without the last line feed too, unless the last line is empty. (A byte 13 at a line's end would belong to none.)
func TestLinesAreSplitAsTheyWere(t *testing.T) {
	some := []string{"", "a", " ", "b c\t", "\ra", "\xff\u00e4", "a\rb"}
	var all [][]string
	for _, x := range some {
		for _, y := range some {
			for _, z := range some {
				all = append(all, []string{x}, []string{x, y}, []string{x, y, z})
			}
		}
	}
	for _, l := range append(all, nil, odd()) {
		var feeds, both string
		for _, line := range l {
			feeds += line + "\n"
			both += line + "\r\n"
		}
		checkSplit(t, feeds, l)
		checkSplit(t, both, l)
		if len(l) > 0 && l[len(l)-1] != "" {
			checkSplit(t, strings.TrimSuffix(feeds, "\n"), l)
		}
	}
}

// P5.4: no line has a line feed, no word a blank; words with blanks between are split as they were.
func TestWhatIsCutHasNoEndsWithin(t *testing.T) {
	texts([]string{"a", " ", "\t", "\n", "\r", "\u00e4", "\xff"}, 5, func(s string) {
		for _, line := range Split(s) {
			if strings.Contains(line, "\n") {
				t.Errorf("Split(%q): %q has a line feed", s, line)
			}
		}
		l := Words(s)
		for _, word := range l {
			if word == "" || strings.ContainsAny(word, " \t") {
				t.Errorf("Words(%q): %q is no word", s, word)
			}
		}
		checkWords(t, strings.Join(l, " "), l)
		checkWords(t, "\t"+strings.Join(l, "\t \t")+" ", l)
	})
}

// P5.1, P5.2, W2, W6: the same text is answered the same way again, whatever was done with the first answer and its spare room.
func TestListsAreNewEachTime(t *testing.T) {
	for _, call := range []func(string) []string{Split, Words} {
		s := "a\nb\tc d\n e"
		first := call(s)
		want := slices.Clone(first)
		for k := range first[:cap(first)] {
			first[:cap(first)][k] = "other"
		}
		if again := call(s); !slices.Equal(again, want) {
			t.Errorf("%q, behind a change of the first answer; want %q", again, want)
		}
	}
}

// W1, W4: whatever bytes: each call answers as the chapter's words say, byte by byte.
func FuzzLines(f *testing.F) {
	for _, sign := range odd() {
		f.Add("A"+sign+"b\r\n"+sign+"\tc", sign)
	}
	f.Add("", "")
	f.Add(greatest, "7")
	f.Fuzz(func(t *testing.T, s, at string) {
		checkSplit(t, s, split(s))
		checkWords(t, s, words(s))
		ahead, behind, ok := cut(s, at)
		checkCut(t, s, at, ahead, behind, ok)
		n, digits := new(big.Int), s != "" && strings.Trim(s, "0123456789") == ""
		if digits {
			n.SetString(s, 10)
		}
		if !digits || !n.IsInt64() {
			checkNumber(t, s, 0, false)
		} else {
			checkNumber(t, s, int(n.Int64()), true)
		}
		folded := make([]byte, len(s))
		for k := range len(s) {
			folded[k] = small(s[k])
		}
		checkFold(t, s, string(folded))
	})
}
