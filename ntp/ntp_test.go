package ntp

import (
	"bytes"
	"fmt"
	"math/big"
	"strconv"
	"strings"
	"sync"
	"testing"

	"epact/api"
	"epact/sha"
)

const allBits = 1<<32 - 1

// someWords tells numbers of each count of digits, with noughts ahead, among and behind them, and of each bit alone.
func someWords() []uint32 {
	all := []uint32{0, 9, 10, 15, 16, 0x9a, 0xa9, 0xff, 0x100, 0x0f0f0f0f, 0xf0f0f0f0, 0x01234567, 0x89abcdef, 0xfedcba98, 0x76543210, 0xdeadbeef, 0x00c0ffee, 0x848434d5, allBits - 1, allBits, 1<<31 - 1}
	for bit := range 32 {
		all = append(all, 1<<bit)
	}
	return all
}

func checkSeconds(t *testing.T, call func(int) (int, bool), name string, n, want int, wantOK bool) {
	t.Helper()
	if x, ok := call(n); x != want || ok != wantOK {
		t.Errorf("%s(%d): %d, %t; want %d, %t", name, n, x, ok, want, wantOK)
	}
}

func checkWord(t *testing.T, s string, want uint32, wantOK bool) {
	t.Helper()
	if w, ok := Word(s); w != want || ok != wantOK {
		t.Errorf("Word(%q): %x, %t; want %x, %t", s, w, ok, want, wantOK)
	}
}

func checkHash(t *testing.T, s string, want [5]uint32) {
	t.Helper()
	if h, ok := Hash(s); h != want || !ok {
		t.Errorf("Hash(%q): %x, %t; want %x, true", s, h, ok, want)
	}
}

func checkNoHash(t *testing.T, s string) {
	t.Helper()
	if h, ok := Hash(s); h != ([5]uint32{}) || ok {
		t.Errorf("Hash(%.80q): %x, %t; want all 0, false", s, h, ok)
	}
}

func checkText(t *testing.T, h [5]uint32, want string) {
	t.Helper()
	if s := Text(h); s != want {
		t.Errorf("Text(%x): %q; want %q", h, s, want)
	}
}

// P7.1: written out: the chapter's example, the ends, and what is about them.
func TestSecondsByHand(t *testing.T) {
	for n, p := range map[int]int{
		0: -2208988800, 1: -2208988799, 86400: -2208902400,
		2208988799: -1, 2208988800: 0, 2208988801: 1,
		2272060799: 63071999, 2272060800: 63072000, 2287785600: 78796800, 3692217600: 1483228800, 3991593600: 1782604800,
		1<<32 - 1: 2085978495, 1 << 32: 2085978496,
		9223372036854775806: 9223372034645787006, 9223372036854775807: 9223372034645787007,
	} {
		checkSeconds(t, Posix, "Posix", n, p, true)
		checkSeconds(t, Ntp, "Ntp", p, n, true)
	}
}

// P7.1, W3: seconds ahead of 1900 are none, however far; and 0 beside the false.
func TestPosixOfSecondsThatAreNone(t *testing.T) {
	for _, n := range []int{-1, -2, -86400, -2208988799, -2208988800, -2208988801, -1 << 32, -1 << 62, -9223372034645787009, -9223372034645787008, -9223372034645787007, api.MinInt + 1, api.MinInt} {
		checkSeconds(t, Posix, "Posix", n, 0, false)
	}
}

// P7.1, W3: no n of a p ahead of 1900, nor of one whose n is more than an int holds; and 0 beside the false.
func TestNtpOfSecondsThatHaveNone(t *testing.T) {
	for _, p := range []int{-2208988801, -2208988802, -1 << 32, -4417977600, -4417977601, -1 << 62, api.MinInt + 2208988801, api.MinInt + 2208988800, api.MinInt + 2208988799, api.MinInt + 1, api.MinInt} {
		checkSeconds(t, Ntp, "Ntp", p, 0, false)
	}
	for _, p := range []int{api.MaxInt - 2208988799, api.MaxInt - 2208988798, api.MaxInt - 1<<31, api.MaxInt - 1<<30, api.MaxInt - 1, api.MaxInt} {
		checkSeconds(t, Ntp, "Ntp", p, 0, false)
	}
}

// P7.1: about each power of 2, the epoch and both ends, held against numbers without bounds.
func TestSecondsAboutEachPower(t *testing.T) {
	at := []int{0, api.Epoch, -api.Epoch, 2 * api.Epoch, api.MaxInt - api.Epoch, api.MinInt + api.Epoch}
	for k := range 63 {
		at = append(at, 1<<k, -1<<k)
	}
	for _, middle := range at {
		for off := -300; off <= 300; off++ {
			if n := middle + off; (n > middle) == (off > 0) {
				checkSecondsByGreat(t, n)
			}
		}
	}
	for off := range 300 {
		checkSecondsByGreat(t, api.MaxInt-off)
		checkSecondsByGreat(t, api.MinInt+off)
	}
}

func checkSecondsByGreat(t *testing.T, n int) {
	t.Helper()
	epoch := big.NewInt(2208988800)
	p := new(big.Int).Sub(big.NewInt(int64(n)), epoch)
	if n < 0 {
		p.SetInt64(0)
	}
	checkSeconds(t, Posix, "Posix", n, int(p.Int64()), n >= 0)
	back := new(big.Int).Add(big.NewInt(int64(n)), epoch)
	has := back.Sign() >= 0 && back.IsInt64()
	if !has {
		back.SetInt64(0)
	}
	checkSeconds(t, Ntp, "Ntp", n, int(back.Int64()), has)
}

// P7.1: seconds there and back are the same.
func TestSecondsThereAndBack(t *testing.T) {
	for k := range 200000 {
		for _, n := range []int{k, k * 86400, api.Epoch + k, api.MaxInt - k, api.MaxInt - api.Epoch - k, k * 46116860184273} {
			p, ok := Posix(n)
			if !ok {
				t.Fatalf("Posix(%d): none", n)
			}
			checkSeconds(t, Ntp, "Ntp", p, n, true)
		}
	}
}

// P7.2: written out: one digit up to eight, noughts ahead, small letters, great ones and both.
func TestWordByHand(t *testing.T) {
	for s, want := range map[string]uint32{
		"0": 0, "1": 1, "9": 9, "a": 10, "f": 15, "A": 10, "F": 15,
		"10": 16, "aB": 171, "Ab": 171, "ab": 171, "AB": 171, "ff": 255, "fF": 255, "100": 256,
		"00": 0, "000": 0, "00000000": 0, "01": 1, "00000001": 1, "0000000f": 15, "0000000F": 15, "00c0ffee": 0xc0ffee, "c0ffee": 0xc0ffee,
		"1234567": 0x1234567, "12345678": 0x12345678, "9abcdef0": 0x9abcdef0, "9ABCDEF0": 0x9abcdef0, "9aBcDeF0": 0x9abcdef0,
		"7fffffff": 1<<31 - 1, "80000000": 1 << 31, "80000001": 1<<31 + 1, "fffffffe": allBits - 1, "ffffffff": allBits, "FFFFFFFF": allBits, "FfFffFfF": allBits,
		"848434d5": 0x848434d5, "848434D5": 0x848434d5, "e1e1e1e1": 0xe1e1e1e1, "12e4": 0x12e4, "0e0": 0xe0, "0b1": 0xb1, "0b2": 0xb2,
	} {
		checkWord(t, s, want, true)
	}
}

// P7.2, W3: written out: no digit, too many, and others; 0 beside the false.
func TestWordOfWhatIsNone(t *testing.T) {
	for _, s := range []string{
		"", "g", "G", "z", "-", "+", "-1", "+1", "-0", "1-", "0x1", "0X1", "x1", "0x", "x", "#1", "$1", "1h", "1_0", "_1", "1_", "1.0", ".1", "1.", "1e+1", "0o7",
		" ", "\t", " 1", "1 ", "\t1", "1\t", "1 2", "1\n", "\n1", "1\r", "1\r\n", "\x00", "1\x00", "\x001", "\"1\"", "1,2", "1:2", "/", ":", "@", "`", "{",
		"000000000", "000000001", "123456789", "0ffffffff", "100000000", "fffffffff", "ffffffff ", " ffffffff", "ffffffffg", "gffffffff", "0000000000000001", "1 1 1 1 1", "12345678 ", strings.Repeat("0", 40), strings.Repeat("f", 1<<16), strings.Repeat("0", 1<<16), strings.Repeat("g", 1<<16),
		"\u0663", "1\u0663", "\u06631", "\uff11", "\uff21", "\uff41", "\u0430", "\u0391", "é", "1é", "é1", "\U0001d7ce", "\U0001d7d9", "\u00b2", "\u00bd", "\u2160", "\u4e00", "\ufeff1", "1\u0301", "\u00a01", "\ufffd", "\x80", "\xff", "\xb0", "\xb1", "\xe1", "\xc1", "\xc0\xb1", "\xe0\x80\xb1", "\xed\xa0\x80",
	} {
		checkWord(t, s, 0, false)
	}
}

// isDigit tells whether b is one of base 16, by a list of them.
func isDigit(b byte) bool {
	return strings.IndexByte("0123456789abcdefABCDEF", b) >= 0
}

// P7.2: every byte at each place of each count of digits, alone and among others.
func TestWordOfEachByteAtEachPlace(t *testing.T) {
	for count := 1; count <= 9; count++ {
		for _, among := range []string{"000000000", "fffffffff", "FFFFFFFFF", "1a2B3c4D5", "\xff\xff\xff\xff\xff\xff\xff\xff\xff"} {
			for k := range count {
				for b := range 256 {
					s := []byte(among[:count])
					s[k] = byte(b)
					checkWordByLibrary(t, string(s))
				}
			}
		}
	}
}

// checkWordByLibrary holds Word against the library, which takes more: it has no bound of digits.
func checkWordByLibrary(t *testing.T, s string) {
	t.Helper()
	is := len(s) >= 1 && len(s) <= 8
	for k := range len(s) {
		is = is && isDigit(s[k])
	}
	want := uint64(0)
	if is {
		var err error
		want, err = strconv.ParseUint(s, 16, 32)
		if err != nil {
			t.Fatal(err)
		}
	}
	checkWord(t, s, uint32(want), is)
}

// P7.2: all texts of up to two bytes, and all of up to four digits.
func TestWordOfAllShortTexts(t *testing.T) {
	for a := range 256 {
		checkWordByLibrary(t, string([]byte{byte(a)}))
		for b := range 256 {
			checkWordByLibrary(t, string([]byte{byte(a), byte(b)}))
		}
	}
	for n := range uint32(1 << 16) {
		for count := 1; count <= 8; count++ {
			if n>>(4*count) == 0 {
				checkWord(t, fmt.Sprintf("%0*x", count, n), n, true)
				checkWord(t, fmt.Sprintf("%0*X", count, n), n, true)
			}
		}
		checkWord(t, fmt.Sprintf("%09x", n), 0, false)
	}
}

// P7.2: every sign beyond the bytes is no digit, though its number, cut down to a byte, be one's.
func TestWordOfSigns(t *testing.T) {
	for c := rune(128); c <= 0x10ffff; c++ {
		s := string(c)
		if w, ok := Word(s); w != 0 || ok {
			t.Fatalf("Word(%q): %x, %t; want 0, false", s, w, ok)
		}
		if w, ok := Word("1" + s); w != 0 || ok {
			t.Fatalf("Word(%q): %x, %t; want 0, false", "1"+s, w, ok)
		}
	}
}

// P7.2: each way of small and great letters of one number.
func TestWordOfBothKindsOfLetters(t *testing.T) {
	for mask := range 1 << 8 {
		s := []byte("fedcbaaf")
		for k := range s {
			if mask>>k&1 == 1 {
				s[k] -= 'a' - 'A'
			}
		}
		checkWord(t, string(s), 0xfedcbaaf, true)
	}
}

// P7.2: written out: one blank, more of them, ahead and behind, and both kinds of letters.
func TestHashByHand(t *testing.T) {
	h := [5]uint32{0x848434d5, 0x570f7ea8, 1, 0xa00fc821, 0}
	for _, s := range []string{
		"848434d5 570f7ea8 00000001 a00fc821 00000000", "848434d5 570f7ea8 1 a00fc821 0", "848434D5 570F7EA8 00000001 A00FC821 00000000", "848434D5 570f7Ea8 01 a00fC821 000",
		"848434d5\t570f7ea8\t1\ta00fc821\t0", "848434d5  570f7ea8   1\t\ta00fc821 \t 0", " 848434d5 570f7ea8 1 a00fc821 0", "848434d5 570f7ea8 1 a00fc821 0 ", "\t \t848434d5 570f7ea8 1 a00fc821 0\t \t",
		strings.Repeat(" ", 1000) + "848434d5" + strings.Repeat("\t", 1000) + "570f7ea8 1 a00fc821 0" + strings.Repeat(" \t", 1000),
	} {
		checkHash(t, s, h)
	}
	checkHash(t, "0 0 0 0 0", [5]uint32{})
	checkHash(t, "1 2 3 4 5", [5]uint32{1, 2, 3, 4, 5})
	checkHash(t, "5 4 3 2 1", [5]uint32{5, 4, 3, 2, 1})
	checkHash(t, "7 7 7 7 7", [5]uint32{7, 7, 7, 7, 7})
	checkHash(t, "ffffffff ffffffff ffffffff ffffffff ffffffff", [5]uint32{allBits, allBits, allBits, allBits, allBits})
	checkHash(t, "f e d c b", [5]uint32{15, 14, 13, 12, 11})
}

// P7.2, W3: other counts of words, however many, are no hash; all 0 beside the false.
func TestHashOfOtherCounts(t *testing.T) {
	for count := range 40 {
		for _, word := range []string{"0", "1", "f", "00000000", "ffffffff", "848434d5"} {
			for _, between := range []string{" ", "\t", "  ", " \t "} {
				if count == 5 {
					continue
				}
				s := strings.TrimSuffix(strings.Repeat(word+between, count), between)
				checkNoHash(t, s)
				checkNoHash(t, between+s+between)
			}
		}
	}
	for _, s := range []string{"", " ", "\t", "     ", "\t\t\t\t\t", "1 2 3 4", "1 2 3 4 5 6", "1 2 3 4 5 x", "x 1 2 3 4 5", "12345678 12345678 12345678 12345678", "12345 ", "1,2,3,4,5", "1\n2\n3\n4\n5", "1\r2\r3\r4\r5", "1\v2\v3\v4\v5", "1\f2\f3\f4\f5", "1\x002\x003\x004\x005", "1\u00a02\u00a03\u00a04\u00a05", "1\u20032\u20033\u20034\u20035", strings.Repeat("1 ", 1<<16), strings.Repeat("0", 40), "848434d5570f7ea800000001a00fc82100000000"} {
		checkNoHash(t, s)
	}
}

// P7.2, W3: five words, of which one is none, at each place; what was read ahead of it is not told.
func TestHashWithAWordThatIsNone(t *testing.T) {
	for _, none := range []string{"x", "g", "-1", "+1", "0x1", "123456789", "000000000", "000000001", "1.", "1,", "\u0663", "1\u0663", "\x80", "\xff", "\x00", "1\n", "\n1", "1\r", "\r", "\n", "\v", "\f", "\u00a0", "é", "#", "#h", strings.Repeat("0", 1000)} {
		for k := range 5 {
			words := []string{"848434d5", "570f7ea8", "1", "a00fc821", "2"}
			words[k] = none
			checkNoHash(t, strings.Join(words, " "))
			checkNoHash(t, "\t"+strings.Join(words, " \t")+" ")
			for l := range words {
				words[l] = none
			}
			checkNoHash(t, strings.Join(words, " "))
		}
	}
	checkNoHash(t, "1 2 3 4 5\n")
	checkNoHash(t, "1 2 3 4 5\r")
	checkNoHash(t, "1 2 3 4 5\r\n")
	checkNoHash(t, "\n1 2 3 4 5")
	checkNoHash(t, "\ufeff1 2 3 4 5")
}

// P7.2: every byte within, ahead of and behind each word: a blank cuts it, a digit is a part of it, any other makes it none.
func TestHashOfEachByteAtEachPlace(t *testing.T) {
	const text = " 12 34 56 78 9a "
	for k := range len(text) {
		for b := range 256 {
			s := []byte(text)
			s[k] = byte(b)
			var want [5]uint32
			words := bytes.FieldsFunc(s, func(c rune) bool { return c == ' ' || c == '\t' })
			is := len(words) == 5
			for n, word := range words {
				w, err := strconv.ParseUint(string(word), 16, 32)
				if is = is && err == nil; is {
					want[n] = uint32(w)
				}
			}
			if is {
				checkHash(t, string(s), want)
			} else {
				checkNoHash(t, string(s))
			}
		}
	}
}

// P7.3: written out: noughts ahead, small letters, a space between two and none ahead or behind.
func TestTextByHand(t *testing.T) {
	for s, h := range map[string][5]uint32{
		"848434d5 570f7ea8 00000001 a00fc821 00000000": {0x848434d5, 0x570f7ea8, 1, 0xa00fc821, 0},
		"00000000 00000000 00000000 00000000 00000000": {},
		"ffffffff ffffffff ffffffff ffffffff ffffffff": {allBits, allBits, allBits, allBits, allBits},
		"00000001 00000002 00000003 00000004 00000005": {1, 2, 3, 4, 5},
		"0000000a 000000b0 00000c00 0000d000 000e0000": {0xa, 0xb0, 0xc00, 0xd000, 0xe0000},
		"00f00000 0a000000 b0000000 80000000 7fffffff": {0xf00000, 0xa000000, 0xb0000000, 1 << 31, 1<<31 - 1},
		"01234567 89abcdef fedcba98 76543210 00c0ffee": {0x01234567, 0x89abcdef, 0xfedcba98, 0x76543210, 0x00c0ffee},
	} {
		checkText(t, h, s)
	}
}

// P7.3: each number at each place, among noughts and among the highest ones, held against the library.
func TestTextOfEachNumberAtEachPlace(t *testing.T) {
	for _, among := range []uint32{0, allBits, 0x0a0b0c0d} {
		for _, w := range someWords() {
			for k := range 5 {
				h := [5]uint32{among, among, among, among, among}
				h[k] = w
				checkText(t, h, fmt.Sprintf("%08x %08x %08x %08x %08x", h[0], h[1], h[2], h[3], h[4]))
			}
		}
	}
}

// P7.3: 44 bytes, whatever the numbers; nothing but small digits, and a space at each ninth place.
func TestTextIsOfOneForm(t *testing.T) {
	w := uint32(1)
	for range 10000 {
		var h [5]uint32
		for k := range h {
			w = w*1664525 + 1013904223
			h[k] = w >> (w % 32)
		}
		s := Text(h)
		if len(s) != 44 {
			t.Fatalf("Text(%x): %q, of %d bytes", h, s, len(s))
		}
		for k := range len(s) {
			if k%9 == 8 && s[k] != ' ' || k%9 != 8 && strings.IndexByte("0123456789abcdef", s[k]) < 0 {
				t.Fatalf("Text(%x): %q, with %q at %d", h, s, s[k], k)
			}
		}
	}
}

// checkAllForms holds that h is read of its text, with the first noughts of each word, with some of them, and without them, in small letters and great ones, with more blanks.
func checkAllForms(t *testing.T, h [5]uint32) {
	t.Helper()
	s := Text(h)
	checkHash(t, s, h)
	checkHash(t, strings.ToUpper(s), h)
	checkHash(t, " \t"+strings.ReplaceAll(s, " ", "\t ")+"\t ", h)
	for mask := range 1 << 5 {
		words := strings.Split(s, " ")
		for k, word := range words {
			if mask>>k&1 == 1 {
				words[k] = strconv.FormatUint(uint64(h[k]), 16)
			} else {
				// Half of its noughts, but at least the last digit.
				words[k] = word[(len(word)-len(strings.TrimLeft(word, "0")))/2:]
			}
		}
		checkHash(t, strings.Join(words, " "), h)
	}
}

// P7.4: hashes are read of their texts, with the first noughts of each word and without them.
func TestHashesAreReadOfTheirTexts(t *testing.T) {
	words := someWords()
	for k := range words {
		var h [5]uint32
		for n := range h {
			h[n] = words[(k+n*7)%len(words)]
		}
		checkAllForms(t, h)
	}
	for _, w := range words {
		for k := range 5 {
			var h [5]uint32
			h[k] = w
			checkAllForms(t, h)
		}
		checkAllForms(t, [5]uint32{w, w, w, w, w})
	}
	for n := range 3000 {
		checkAllForms(t, sha.Words(sha.Sum([]byte(strconv.Itoa(n)))))
	}
}

// P7.4: no two hashes have one text.
func TestTextsOfHashesDiffer(t *testing.T) {
	had := map[string][5]uint32{}
	for _, a := range someWords() {
		for k := range 5 {
			var h [5]uint32
			h[k] = a
			s := Text(h)
			if other, ok := had[s]; ok && other != h {
				t.Errorf("%q is the text of %x and of %x", s, other, h)
			}
			had[s] = h
		}
	}
}

// W2, W6: what is told hangs on nothing that was told ahead, and what is handed in is neither changed nor kept.
func TestCallsHangOnTheirArgumentsAlone(t *testing.T) {
	h := [5]uint32{1, 2, 3, 4, 0xabcdef}
	const text = "00000001 00000002 00000003 00000004 00abcdef"
	s := Text(h)
	h[0] = 9
	if s != text {
		t.Errorf("%q, behind a change of the numbers; want %q", s, text)
	}
	read, ok := Hash(text)
	read[0] = 9
	if !ok {
		t.Errorf("Hash(%q): none", text)
	}
	for range 3 {
		checkNoHash(t, "1 2 3 4 x")
		checkHash(t, text, [5]uint32{1, 2, 3, 4, 0xabcdef})
		checkWord(t, "x", 0, false)
		checkWord(t, "f", 15, true)
		checkSeconds(t, Posix, "Posix", -1, 0, false)
		checkSeconds(t, Posix, "Posix", 2272060800, 63072000, true)
		checkSeconds(t, Ntp, "Ntp", api.MaxInt, 0, false)
		checkSeconds(t, Ntp, "Ntp", 63072000, 2272060800, true)
		checkText(t, [5]uint32{1, 2, 3, 4, 0xabcdef}, text)
	}
}

// W2: calls at the same time do not touch each other.
func TestCallsAtTheSameTime(t *testing.T) {
	var all sync.WaitGroup
	for n := range 16 {
		all.Go(func() {
			for k := range 500 {
				h := [5]uint32{uint32(n), uint32(k), uint32(n * k), uint32(n + k), allBits - uint32(k)}
				if read, ok := Hash(Text(h)); read != h || !ok {
					t.Errorf("%x is read as %x at the same time as others", h, read)
				}
			}
		})
	}
	all.Wait()
}

// W1, P7.1: whatever second.
func FuzzSeconds(f *testing.F) {
	for _, n := range []int{0, -1, api.Epoch, -api.Epoch, -api.Epoch - 1, 2272060800, api.MaxInt, api.MinInt, api.MaxInt - api.Epoch, api.MaxInt - api.Epoch + 1} {
		f.Add(n)
	}
	f.Fuzz(func(t *testing.T, n int) {
		checkSecondsByGreat(t, n)
	})
}

// W1, P7.2, P7.4: whatever text: what is read as a hash is read of its own text again, and has five words.
func FuzzHash(f *testing.F) {
	for _, s := range []string{"", "0", "ffffffff", "123456789", "848434d5 570f7ea8 00000001 a00fc821 00000000", "\t848434D5\t570f7ea8 1  A00FC821 0 ", "1 2 3 4", "1 2 3 4 x", "1 2 3 4 5 6", "\u0663 2 3 4 5", "\xff"} {
		f.Add(s)
	}
	f.Fuzz(func(t *testing.T, s string) {
		checkWordByLibrary(t, s)
		words := strings.FieldsFunc(s, func(c rune) bool { return c == ' ' || c == '\t' })
		var want [5]uint32
		is := len(words) == 5
		for k, word := range words {
			w, ok := Word(word)
			if is = is && ok; is {
				want[k] = w
			}
		}
		if !is {
			checkNoHash(t, s)
			return
		}
		checkHash(t, s, want)
		checkAllForms(t, want)
	})
}
