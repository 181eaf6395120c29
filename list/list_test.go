package list

import (
	"crypto/sha1"
	"fmt"
	"math/big"
	"math/rand"
	"regexp"
	"slices"
	"strconv"
	"strings"
	"sync"
	"testing"
	"time"

	"epact/api"
	"epact/leap"
)

const (
	// Lines of data: the first one, and those behind the days 911, 1095 and 1460.
	first  = "2272060800 10\n"
	second = "2287785600 11\n"
	third  = "2303683200 12\n"
	fourth = "2335219200 13\n"

	// greatest is the greatest number that an int holds, beyond the next one.
	greatest = "9223372036854775807"
	beyond   = "9223372036854775808"

	// lastSecond is that of the year 9999, lastNtp the same, counted from 1900 on.
	lastSecond = 253402300799
	lastNtp    = "255611289599"
)

// published are the days at whose ends seconds were inserted, of 1972 to 2016.
var published = []int{911, 1095, 1460, 1825, 2190, 2556, 2921, 3286, 3651, 4198, 4563, 4928, 5659, 6573, 7304, 7669, 8216, 8581, 8946, 9495, 10042, 10591, 13148, 14244, 15521, 16616, 17166}

// table tells a table of leaps: of days, 1, but those below 0, which are of -1.
func table(days ...int) api.Table {
	var t api.Table
	for _, d := range days {
		l := api.Leap{Day: d, Step: 1}
		if d < 0 {
			l = api.Leap{Day: -d, Step: -1}
		}
		t.Leaps = append(t.Leaps, l)
	}
	return t
}

// until tells t with an expiry.
func until(t api.Table, p int) api.Table {
	t.Has, t.Expires = true, p
	return t
}

// same holds two tables against each other, field by field.
func same(a, b api.Table) bool {
	if len(a.Leaps) != len(b.Leaps) || a.Has != b.Has || a.Expires != b.Expires {
		return false
	}
	for k := range a.Leaps {
		if a.Leaps[k].Day != b.Leaps[k].Day || a.Leaps[k].Step != b.Leaps[k].Step || a.Leaps[k].Roll != b.Leaps[k].Roll {
			return false
		}
	}
	return true
}

// isEnd tells by the library's calendar whether the day behind d begins a month.
func isEnd(d int) bool {
	return time.Unix(int64(d+1)*86400, 0).UTC().Day() == 1
}

// monthEnds tells the first n days from d on that are the last of their month.
func monthEnds(d, n int) []int {
	var all []int
	for ; len(all) < n; d++ {
		if isEnd(d) {
			all = append(all, d)
		}
	}
	return all
}

// waves tells n month ends from d on, the steps of which go up and down between 10 and 13.
func waves(d, n int) []int {
	all := monthEnds(d, n)
	for k := range all {
		if k%6 > 2 {
			all[k] = -all[k]
		}
	}
	return all
}

// behind tells the line of data of the day behind d, with that count.
func behind(d, count int) string {
	return fmt.Sprintf("%d %d\n", (d+1)*86400+2208988800, count)
}

// digest tells by the library what that digest is, as a list's line has it.
func digest(hashed string) string {
	h := fmt.Sprintf("%x", sha1.Sum([]byte(hashed)))
	return h[:8] + " " + h[8:16] + " " + h[16:24] + " " + h[24:32] + " " + h[32:]
}

// brief tells the text of x, or what it begins with.
func brief(x any) string {
	return fmt.Sprintf("%.300s", fmt.Sprintf("%+v", x))
}

func checkParse(t *testing.T, s string, want api.Table) {
	t.Helper()
	if x, f := Parse(s); f != (api.Fault{}) || !same(x, want) {
		t.Errorf("Parse(%.300q): %s, %v; want %s", s, brief(x), f, brief(want))
	}
}

func checkFault(t *testing.T, s string, line int, code api.Errno) {
	t.Helper()
	if x, f := Parse(s); f.Line != line || f.Code != code || !same(x, api.Table{}) {
		t.Errorf("Parse(%.300q): %s, %v; want the fault %d in line %d", s, brief(x), f, code, line)
	}
}

func checkText(t *testing.T, x api.Table, stamp int, want string) {
	t.Helper()
	if s, ok := Text(x, stamp); s != want || !ok {
		t.Errorf("Text(%s, %d): %q, %t; want %q", brief(x), stamp, s, ok, want)
	}
}

func checkNoText(t *testing.T, x api.Table, stamp int) {
	t.Helper()
	if s, ok := Text(x, stamp); s != "" || ok {
		t.Errorf("Text(%s, %d): %q, %t; want none", brief(x), stamp, s, ok)
	}
}

func checkHash(t *testing.T, s, hashed string) {
	t.Helper()
	if d := Hash(s); d != sha1.Sum([]byte(hashed)) {
		t.Errorf("Hash(%.300q): %x; want that of %.300q", s, d, hashed)
	}
}

// P10.1: written out: the chapter's example.
func TestExample(t *testing.T) {
	x, f := Parse("2272060800 10\n2287785600 11\n")
	if len(x.Leaps) != 1 || x.Leaps[0] != (api.Leap{Day: 911, Step: 1}) || x.Has || x.Expires != 0 || f != (api.Fault{}) {
		t.Errorf("%v, %v", x, f)
	}
}

// publishedList tells a list of 1972 to 2016 in the shape in which such lists are published, with that stamp, expiry and hash.
func publishedList(stamp, expiry, hash string) string {
	s := "#\n#\tUpdated through IERS Bulletin C\n#\n#$\t " + stamp + "\n#\n#@\t" + expiry + "\n#\n" + "2272060800\t10\t# 1 Jan 1972\n"
	for k, d := range published {
		s += strings.ReplaceAll(strings.TrimSpace(behind(d, 11+k)), " ", "\t") + "\t# " + time.Unix(int64(d+1)*86400, 0).UTC().Format("2 Jan 2006") + "\n"
	}
	return s + "#\n#h\t" + hash + "\n"
}

// P10.1, P10.2: lists in the shape of those that are published; their hashes were reckoned outside this program.
func TestPublishedLists(t *testing.T) {
	const hash = "dacf2c42 2c4765d6 3c797af8 2cf630eb 699c8c67"
	checkParse(t, publishedList("3676924800", "3707596800", hash), until(table(published...), 1498608000))
	checkParse(t, publishedList("3676924800", "3833827200", "064356a8 39268b92 76e4d5ef 3e22fae1 0cca529c"), until(table(published...), 1624838400))
	checkFault(t, publishedList("3676924801", "3707596800", hash), 37, 3)
	checkFault(t, publishedList("3676924800", "3707596801", hash), 37, 3)
	checkFault(t, publishedList("3676924800", "3833827200", hash), 37, 3)
}

// remarks tells lines that say nothing: empty ones, and remarks, also those that look like others, but do not begin with the two bytes.
func remarks() []string {
	return []string{
		"", " ", "\t", " \t \t",
		"#", "# ", "#\t", "##", "###", "#x", "# x y z", " #", "\t# x", "  \t#x",
		" #$ 5", "\t#$", " #@ 5", " #@ x", " #h 1 2 3 4 5", "\t#h", "# #$ 5", "# $ 5", "#\t@ 5", "##$ 5", "##h", "# h 1 2 3 4 5",
		"#H", "#H 1 2 3 4 5", "#%", "#A", "#5", "#2272060800 10", "# 2272060800 10", "#\x00", "#\xff", "#\r$ 5", "#\u00e4", "#\u20ac 5", " \t#\xc3",
	}
}

// P10.1: empty lines and remarks say nothing, wherever they stand, and as often as they stand; nor are they hashed.
func TestLinesThatSayNothing(t *testing.T) {
	lines := []string{"#$ 7", "#@ 3707596800", "2272060800 10", "2287785600 11", "#h " + digest("73707596800227206080010228778560011")}
	want := until(table(911), 1498608000)
	for _, r := range remarks() {
		for k := range len(lines) + 1 {
			for n := range 3 {
				all := slices.Concat(lines[:k], slices.Repeat([]string{r}, n), lines[k:])
				for _, end := range []string{"\n", "\r\n"} {
					s := strings.Join(all, end)
					checkParse(t, s, want)
					checkParse(t, s+end, want)
					checkHash(t, s, "73707596800227206080010228778560011")
				}
			}
		}
	}
}

// numberForms tells ways to write a number behind the two bytes of a stamp or an expiry.
func numberForms(n string) []string {
	return []string{n, " " + n, "\t" + n, " \t  " + n + "\t ", n + " ", "0" + n, " 000000000000000000000000000000" + n, n + "\r", " " + n + " \r"}
}

// wrongNumbers tells what is no number of a stamp or an expiry: no word, two words, no number, one that is too great.
func wrongNumbers(n string) []string {
	return []string{
		"", " ", "\t \t", "\r", n + " " + n, " " + n + "\t0", n + " x", "x " + n, n + " # x", n + "#", n + " #", "#", "# " + n,
		"x", n + "x", "x" + n, "-" + n, "- " + n, "+" + n, " -1", n + ".", n + ".0", "0x" + n, "1e9", n[:2] + "_" + n[2:], n + ",", "$ " + n, "@" + n, "h",
		beyond, " " + beyond, "9" + greatest, "1" + strings.Repeat("0", 40), "00" + beyond,
		n + "\r\r", n + "\v", n + "\x00", n + "\u00a0", "\u00a0" + n, "\u0663" + n, "\uff11", "\xff", n + "\xff", n + "\r " + n,
	}
}

// P10.1: stamps: right ones and wrong ones, ahead of the data, among it and behind it.
func TestStamps(t *testing.T) {
	for _, n := range []string{"0", "5", "3676924800", lastNtp, greatest} {
		for _, form := range numberForms(n) {
			checkParse(t, "#$"+form+"\n"+first+second, table(911))
			checkParse(t, first+"#$"+form+"\n"+second, table(911))
			checkParse(t, first+second+"#$"+form+"\n", table(911))
			checkParse(t, first+second+"#$"+form, table(911))
		}
	}
	for _, form := range wrongNumbers("3676924800") {
		checkFault(t, "#$"+form+"\n"+first+second, 1, 2)
		checkFault(t, first+"#$"+form+"\n"+second, 2, 2)
		checkFault(t, first+second+"\n#$"+form+"\n", 4, 2)
		checkFault(t, first+second+"#$"+form, 3, 2)
	}
}

// P10.1, P10.2: expiries: right ones and wrong ones, ahead of the data, among it and behind it.
func TestExpiries(t *testing.T) {
	for n, p := range map[string]int{"2287785600": 78796800, "3707596800": 1498608000, lastNtp: lastSecond} {
		want := until(table(911), p)
		for _, form := range numberForms(n) {
			checkParse(t, "#@"+form+"\n"+first+second, want)
			checkParse(t, first+"#@"+form+"\n"+second, want)
			checkParse(t, first+second+"#@"+form+"\n", want)
			checkParse(t, first+second+"#@"+form, want)
		}
	}
	for _, form := range wrongNumbers("3707596800") {
		checkFault(t, "#@"+form+"\n"+first+second, 1, 2)
		checkFault(t, first+"#@"+form+"\n"+second, 2, 2)
		checkFault(t, first+second+"\n#@"+form+"\n", 4, 2)
		checkFault(t, first+second+"#@"+form, 3, 2)
	}
}

// P10.2: expiries that are too early, at their edges, and too late.
func TestEdgesOfExpiries(t *testing.T) {
	for _, x := range []struct {
		data        string
		leaps       api.Table
		early, edge string
		p           int
	}{
		{first, api.Table{}, "2272060799", "2272060800", 63072000},
		{first + second, table(911), "2287785599", "2287785600", 78796800},
		{first + "2287785600 9\n", table(-911), "2287785599", "2287785600", 78796800},
		{first + second + third, table(911, 1095), "2303683199", "2303683200", 94694400},
		{first + behind(2932865, 11), table(2932865), "255608611199", "255608611200", 2932866 * 86400},
	} {
		n := strings.Count(x.data, "\n")
		for _, wrong := range []string{"0", "1", "2208988799", "2208988800", "2272060799", x.early, "255611289600", "255611289601", greatest} {
			checkFault(t, "#@ "+wrong+"\n"+x.data, 1, 9)
			checkFault(t, "#\n\n#@ "+wrong+"\n#\n"+x.data, 3, 9)
			checkFault(t, x.data+"#@ "+wrong, n+1, 9)
			checkFault(t, x.data+"\n#@ "+wrong+"\n# x\n", n+2, 9)
		}
		for right, p := range map[string]int{x.edge: x.p, "255611289598": lastSecond - 1, lastNtp: lastSecond} {
			checkParse(t, "#@ "+right+"\n"+x.data, until(x.leaps, p))
			checkParse(t, x.data+"#@ "+right, until(x.leaps, p))
		}
	}
}

// P10.2: an expiry that is ahead of a leap is wrong in its own line, not in that of the leap.
func TestExpiryAmongData(t *testing.T) {
	checkFault(t, first+"#@ 2287785599\n"+second+third, 2, 9)
	checkFault(t, first+second+"#@ 2303683199\n"+third, 3, 9)
	checkFault(t, "#@ 0\n"+first+second, 1, 9)
	checkFault(t, "#@ 0\n"+first+"2287785600 12\n", 3, 6)
	checkFault(t, "#@ 0\n"+first+second+second, 4, 6)
	checkFault(t, "#@ 0\n"+first+second+"2287785600 12\n", 4, 4)
}

// P10.1: a stamp, an expiry and a hash may not come twice, even if they say the same, or if the second one is wrong.
func TestLinesThatComeTwice(t *testing.T) {
	for _, x := range []struct {
		line, other string
		want        api.Table
	}{
		{"#$ 5\n", "#$ 6\n", table(911)},
		{"#@ 3707596800\n", "#@ 3707596801\n", until(table(911), 1498608000)},
		{"#h " + digest("227206080010228778560011") + "\n", "#h 1 2 3 4 5\n", table(911)},
	} {
		checkParse(t, x.line+first+second, x.want)
		checkParse(t, first+second+x.line, x.want)
		for _, again := range []string{x.line, x.other, x.line[:2] + "\n", x.line[:2] + "x\n"} {
			checkFault(t, x.line+again+first+second, 2, 2)
			checkFault(t, x.line+first+again+second, 3, 2)
			checkFault(t, x.line+"\n#\n"+first+second+again, 6, 2)
			checkFault(t, first+second+x.line+"\n"+again, 5, 2)
			checkFault(t, first+second+x.line+again+again, 4, 2)
			checkFault(t, first+second+x.line+strings.TrimSpace(again), 4, 2)
		}
	}
	checkFault(t, "#$ 5\n#@ 3707596800\n"+first+second+"#$ 5\n#@ 3707596800\n", 5, 2)
}

// hashForms tells ways to write a hash behind the two bytes of its line.
func hashForms(h string) []string {
	w := strings.Fields(h)
	short := make([]string, len(w))
	for k := range w {
		short[k] = strings.TrimLeft(w[k], "0")
	}
	return []string{h, " " + h, "\t" + h + "\t", " \t" + strings.Join(w, " \t ") + "  ", strings.ToUpper(h), w[0] + " " + strings.ToUpper(strings.Join(w[1:], "\t")), h + "\r", strings.Join(short, " ")}
}

// P10.1, P10.2: hashes that are right, and are those of the list, in all ways to write them; ahead of the data, among it and behind it.
func TestHashes(t *testing.T) {
	// Of stamps enough that each word has a nought ahead at some time.
	for stamp := range 300 {
		n := strconv.Itoa(stamp)
		for _, form := range hashForms(digest(n + "3707596800227206080010228778560011")) {
			want := until(table(911), 1498608000)
			checkParse(t, "#h"+form+"\n#$ "+n+"\n#@ 3707596800\n"+first+second, want)
			checkParse(t, "#@ 3707596800\n"+first+"#h"+form+"\n"+second+"#$ "+n, want)
			checkParse(t, first+second+"#$ "+n+"\n#@ 3707596800\n#h"+form, want)
		}
	}
}

// P10.1: hashes that are none: of no word, of four and of six, of words that are not of base 16, or too long.
func TestWrongHashes(t *testing.T) {
	h := digest("227206080010228778560011")
	w := strings.Fields(h)
	for _, form := range []string{
		"", " ", "\t", "\r", " " + strings.Join(w[:4], " "), " " + strings.Join(w[1:], " "), " " + w[0], h + " 0", h + " " + w[4], "0 " + h, " 1 2 3 4", " 1 2 3 4 5 6",
		h + " # x", h + " #", h + "#", "#" + h, " #" + h, "h " + h, "ash " + h, h + "h", strings.ReplaceAll(h, " ", ""), strings.ReplaceAll(h, " ", "  ")[:20], strings.ReplaceAll(h, " ", ","),
		" 1 2 3 4 g", " g 2 3 4 5", " 1 2 3 4 -5", " 1 2 3 4 +5", " 1 2 0x3 4 5", " 1 2 3 4 123456789", " 000000001 2 3 4 5", " 0" + h, h + "\r\r", h + "\u00a0", h + "\xff", "\u00a0" + h,
	} {
		checkFault(t, "#h"+form+"\n"+first+second, 1, 2)
		checkFault(t, first+"#h"+form+"\n"+second, 2, 2)
		checkFault(t, first+second+"\n\n#h"+form+"\n", 5, 2)
		checkFault(t, first+second+"#h"+form, 3, 2)
	}
}

// P10.2: hashes of something else: each bit of them is held against the digest; it is told in the line of the hash.
func TestHashesOfSomethingElse(t *testing.T) {
	d := sha1.Sum([]byte("5227206080010228778560011"))
	for bit := range 160 {
		e := d
		e[bit/8] ^= 1 << (bit % 8)
		h := fmt.Sprintf("#h %x %x %x %x %x\n", e[:4], e[4:8], e[8:12], e[12:16], e[16:])
		checkFault(t, h+"#$ 5\n"+first+second, 1, 3)
		checkFault(t, "#$ 5\n"+first+h+second, 3, 3)
		checkFault(t, "\n#$ 5\n#\n"+first+second+"\n"+h+"\n#\n", 7, 3)
	}
	h := fmt.Sprintf("#h %x %x %x %x %x\n", d[:4], d[4:8], d[8:12], d[12:16], d[16:])
	checkParse(t, h+"#$ 5\n"+first+second, table(911))
	for _, s := range []string{
		"#$ 05\n" + first + second, "#$ 6\n" + first + second, first + second, "#@ 2287785600\n#$ 5\n" + first + second, "#$ 5\n" + first, "#$ 5\n" + first + second + third,
		"#$ 5\n" + first + "2287785600 9\n", "#$ 5\n" + first + "02287785600 11\n", "#$ 5\n" + first + "2287785600 011\n", "#$ 5\n02272060800 10\n" + second, "#$ 5\n2272060800 010\n" + second,
	} {
		checkFault(t, h+s, 1, 3)
		checkFault(t, s+h, strings.Count(s, "\n")+1, 3)
	}
	for _, other := range []string{"0 0 0 0 0", "1 2 3 4 5", "ffffffff ffffffff ffffffff ffffffff ffffffff", digest(""), digest("5227206080010 228778560011"), digest("2272060800102287785600115"), digest("5\n2272060800\t10\n2287785600\t11\n")} {
		checkFault(t, "#h "+other+"\n#$ 5\n"+first+second, 1, 3)
	}
}

// P10.2: a wrong hash is told behind all else, wherever it stands.
func TestWrongHashesBehindAllElse(t *testing.T) {
	const h = "#h 1 2 3 4 5\n"
	for _, x := range []struct {
		s    string
		line int
		code api.Errno
	}{
		{first + second + "x\n", 3, 2}, {first + second + "#$\n", 3, 2}, {first + second + "#$ 5\n#$ 5\n", 4, 2}, {second, 1, 9}, {first + "2287785601 11\n", 2, 5}, {first + "2287785600 12\n", 2, 6}, {first + second + "2287785600 12\n", 3, 4}, {first + "2272060800 11\n", 2, 9},
		{"#@ 2287785599\n" + first + second, 1, 9}, {first + second + "#@ 2287785599\n", 3, 9}, {"", 1, 2}, {"\n#\n", 3, 2}, {"#$ 5\n#@ 3707596800\n", 3, 2},
	} {
		checkFault(t, h+x.s, x.line+1, x.code)
		// Behind the list it stands behind its faulty line, but ahead of the line behind the last one.
		line := x.line
		if line > strings.Count(x.s, "\n") {
			line++
		}
		checkFault(t, x.s+h, line, x.code)
	}
	checkFault(t, h+first+second, 1, 3)
	checkFault(t, h+h+first+second, 2, 2)
}

// P10.1: data that is right: with blanks ahead, between and behind, with noughts ahead, and with whatever stands behind the first #.
func TestData(t *testing.T) {
	for _, line := range []string{
		"2287785600 11", " 2287785600 11", "\t2287785600\t11\t", "  \t 2287785600 \t  11 \t ", "02287785600 011", "000000000000000000000000000002287785600 0000000000000000000000000000011",
		"2287785600 11#", "2287785600 11 #", "2287785600\t11\t# 1 Jul 1972", "2287785600 11# 1 2 3", "2287785600 11 ## x # y", "2287785600 11#@ 5", "2287785600 11 #$", " 2287785600 11 #h 1", "2287785600 11#\xff\x00\u00e4", "2287785600 11 # \r",
	} {
		for _, end := range []string{"\n", "\r\n"} {
			checkParse(t, first+line+end, table(911))
			checkParse(t, first+line+end+third, table(911, 1095))
			checkParse(t, first+line+strings.TrimSuffix(end, "\n"), table(911))
			checkFault(t, first+line+end+line+end, 3, 6)
		}
	}
	for _, line := range []string{"2272060800 10", "\t2272060800\t10\t", "02272060800 010#", " 2272060800   10 # 11", "00000000000000000000000000000000000002272060800\t0000000000000000000000000000000000000000010\r"} {
		checkParse(t, line, api.Table{})
		checkParse(t, line+"\n"+second, table(911))
	}
}

// wrongData tells lines that are neither remarks nor data that is right.
func wrongData() []string {
	all := []string{
		"2287785600", "11", " 2287785600 ", "2287785600#11", "2287785600 # 11", "2287785600 #", "2287785600#", "2287785600 11 12", "2287785600 11 x", "2287785600 11 12 # x", "x 2287785600 11", "2287785600 x", "x 11", "x", "x #", "x#y z", "2#",
		"-1 11", "2287785600 -1", "2287785600 -11", "+2287785600 11", "2287785600 +11", "2287785600. 11", "2287785600 11.0", "2287785600 0xb", "2.2e9 11", "2287785600,11", "2287785600, 11", "2287785600 11;", "2_287_785_600 11",
		beyond + " 11", "2287785600 " + beyond, "9" + greatest + " 11", "2287785600 18446744073709551627", "36893488149706989056 11", beyond + " " + beyond,
		"2287785600\v11", "2287785600\u00a011", "2287785600 11\x00", "2287785600 11\r\r", "2287785600\r 11", "\r2287785600 11", "2287785600 11 \u0663", "2287785600 \uff11\uff11", "\xff", "\xff 11", "2287785600 1\xff1", "\u00e4 \u00e4", "\ufeff2287785600 11",
		"\r\r", "\v", "\x00", "$ 5", "@ 5", "h 1 2 3 4 5", "Leap 2016 Dec 31 23:59:60 + S", "\r#", "\u00a0# x", "x #$ 5", "5 6 7 #@ 5",
	}
	for b := range 256 {
		// A digit makes another number of it, a blank none, a # a remark.
		if !strings.ContainsRune("0123456789 \t\n\r#", rune(b)) {
			all = append(all, "2287785600 11"+string([]byte{byte(b)}), string([]byte{byte(b)})+"2287785600 11", "22877"+string([]byte{byte(b)})+"85600 11")
		}
	}
	return all
}

// P10.1: data that is wrong, as the first line of data and as a later one.
func TestWrongData(t *testing.T) {
	for _, line := range wrongData() {
		checkFault(t, line, 1, 2)
		checkFault(t, line+"\n"+first, 1, 2)
		checkFault(t, "#\n\n"+line+"\n"+first, 3, 2)
		checkFault(t, first+line+"\n", 2, 2)
		checkFault(t, first+second+"\n"+line+"\n"+third, 4, 2)
		checkFault(t, first+second+line, 3, 2)
	}
}

// P10.1: the first line of data has just these two numbers.
func TestFirstLineOfData(t *testing.T) {
	checkParse(t, first, api.Table{})
	checkParse(t, "2272060800 10", api.Table{})
	checkParse(t, "\n# x\n#$ 5\n"+first, api.Table{})
	for _, line := range []string{
		"2272060800 9", "2272060800 11", "2272060800 0", "2272060800 1", "2272060800 100", "2272060800 4294967306", "2272060800 " + greatest,
		"2272060799 10", "2272060801 10", "2271974400 10", "2272147200 10", "2287785600 10", "2208988800 10", "63072000 10", "0 10", "10 2272060800", "227206080 10", "22720608000 10", "6567028096 10", greatest + " 10",
		"2287785600 11", "2272060801 12", "0 0", greatest + " " + greatest, "2272060799 9",
	} {
		checkFault(t, line, 1, 9)
		checkFault(t, line+"\n"+first, 1, 9)
		checkFault(t, "\n#\n"+line+"\r\n"+first, 3, 9)
		checkFault(t, "#@ 5\n"+line+"\nx\n", 2, 9)
	}
}

// P10.1: written out: each error of a later line alone.
func TestLaterLines(t *testing.T) {
	const tail = "# x\n" + fourth
	for _, x := range []struct {
		line string
		code api.Errno
	}{
		// No first second of a day: each of the numbers about one.
		{"2303683199 12", 5}, {"2303683201 12", 5}, {"2303640000 12", 5}, {"2303596801 12", 5}, {"2303769599 12", 5}, {"1 12", 5}, {"86399 12", 5}, {"86401 12", 5}, {"2208988799 12", 5}, {"2208988801 12", 5}, {greatest + " 12", 5}, {"255611289599 12", 5}, {"255611203201 12", 5},
		// No last day of a month ahead of that.
		{"2303596800 12", 5}, {"2303769600 12", 5}, {"2303942400 12", 5}, {"2287872000 12", 5}, {"2287699200 12", 5}, {"2272147200 12", 5}, {"255611116800 12", 5}, {"255611203200 12", 5},
		// Steps of more than one, or of none.
		{"2303683200 11", 6}, {"2303683200 13", 6}, {"2303683200 9", 6}, {"2303683200 0", 6}, {"2303683200 1", 6}, {"2303683200 22", 6}, {"2303683200 4294967308", 6}, {"2303683200 " + greatest, 6}, {"2287785600 11", 6},
		// Days that do not rise.
		{"2287785600 12", 4}, {"2287785600 10", 4}, {"2285193600 12", 4}, {"2274739200 10", 4},
		// Days ahead of 1972, and behind the year 9999.
		{"2272060800 12", 9}, {"2272060800 10", 9}, {"2271974400 12", 9}, {"2269382400 10", 9}, {"2208988800 12", 9}, {"2208902400 10", 9}, {"86400 12", 9}, {"0 12", 9}, {"0 10", 9}, {"255611289600 12", 9}, {"255611376000 12", 9}, {"255613968000 10", 9}, {"9223372036854720000 12", 9},
	} {
		checkFault(t, first+second+x.line, 3, x.code)
		checkFault(t, "#\n"+first+"\n"+second+"#$ 5\n"+x.line+"\r\n"+tail, 6, x.code)
	}
	checkParse(t, first+second+third+tail, table(911, 1095, 1460))
	checkParse(t, first+second+"2303683200 10\n"+"2335219200 9\n", table(911, -1095, -1460))
}

// P10.1: written out: the first and the last days that a leap may have.
func TestDaysOfLeaps(t *testing.T) {
	checkParse(t, first+behind(760, 11), table(760))
	checkParse(t, first+behind(760, 9)+behind(789, 8), table(-760, -789))
	checkParse(t, first+behind(2932865, 11), table(2932865))
	checkParse(t, first+behind(2932835, 9)+behind(2932865, 10), table(-2932835, 2932865))
	checkFault(t, first+behind(729, 11), 2, 9)
	checkFault(t, first+behind(730, 11), 2, 5)
	checkFault(t, first+behind(2932895, 11), 2, 5)
	checkFault(t, first+behind(2932896, 11), 2, 9)
}

// wrong is an error, and whether it holds.
type wrong struct {
	holds bool
	code  api.Errno
}

// firstOf tells the first error that holds.
func firstOf(all ...wrong) api.Errno {
	for _, w := range all {
		if w.holds {
			return w.code
		}
	}
	return 0
}

// P10.1: the first seconds of all days from 1900 on to 2080, and of the last years, each with counts about the one ahead, against the library's calendar.
func TestEachDay(t *testing.T) {
	for d := -25568; d < 2932896+400; d++ {
		if d == 40000 {
			d = 2932896 - 800
		}
		for step := -2; step <= 2; step++ {
			s := first + second + behind(d, 11+step)
			e := firstOf(wrong{step != 1 && step != -1, 6}, wrong{d < 730 || d >= 2932896, 9}, wrong{!isEnd(d), 5}, wrong{d <= 911, 4})
			if e != 0 {
				checkFault(t, s, 3, e)
			} else {
				checkParse(t, s, table(911, d*step))
			}
		}
	}
}

// P10.1: written out: where two or more errors hold of one line, the first one that the promise names is told.
func TestErrorsOfOneLine(t *testing.T) {
	for _, x := range []struct {
		line string
		code api.Errno
	}{
		// Form ahead of all others.
		{"2303683201 13 1", 2}, {"2303683201 x", 2}, {"x 13", 2}, {"2272060800", 2}, {"2272060800 " + beyond, 2},
		// No first second of a day, ahead of a wrong step, of days out of bounds, and of days that do not rise.
		{"2303683201 13", 5}, {"2303683201 11", 5}, {"2303683201 0", 5}, {"1 12", 5}, {"1 99", 5}, {"2272060799 10", 5}, {"2287785601 12", 5}, {greatest + " " + greatest, 5}, {"255611289601 13", 5},
		// A wrong step, ahead of what Check tells.
		{"2287785600 11", 6}, {"2287785600 13", 6}, {"2272060800 10000", 6}, {"2272060800 11", 6}, {"0 0", 6}, {"0 11", 6}, {"2303596800 13", 6}, {"2303596800 11", 6}, {"255611289600 14", 6}, {"9223372036854720000 " + greatest, 6},
		// Of what Check tells: days out of bounds ahead of those that are no end, and of those that do not rise; no end ahead of the latter.
		{"2271974400 12", 9}, {"2269382400 12", 9}, {"255611376000 10", 9}, {"2272147200 12", 5}, {"2287699200 10", 5}, {"2285193600 10", 4},
	} {
		checkFault(t, first+second+x.line+"\n", 3, x.code)
		checkFault(t, "#@ 0\n#h 1 2 3 4 5\n"+first+second+x.line+"\nx\n", 5, x.code)
	}
	for _, line := range []string{"2272060800", "2272060801 11 1", "x 11", "5 " + beyond, "1"} {
		checkFault(t, line+"\n", 1, 2)
	}
}

// P10.1: each two lines that are wrong, in both orders: the one ahead is told, whatever its error.
func TestFirstWrongLine(t *testing.T) {
	lines := []wrongLine{{"x", 2}, {"#$", 2}, {"#$ 6", 2}, {"#@ 5 5", 2}, {"#@ 3707596800", 2}, {"#h 1", 2}, {"#h 1 2 3 4 5", 2}, {"2303683201 12", 5}, {"2303596800 12", 5}, {"2303683200 13", 6}, {"2287785600 12", 4}, {"2272060800 12", 9}}
	start := "#h 1 2 3 4 5\n#$ 5\n#@ 3707596800\n" + first + second
	for _, a := range lines {
		for _, b := range lines {
			checkFault(t, start+a.line+"\n"+b.line+"\n", 6, a.code)
			checkFault(t, start+"# x\n\n"+a.line+"\n\n"+third+b.line, 8, a.code)
		}
	}
	checkFault(t, "x\n"+second, 1, 2)
	checkFault(t, second+"x\n", 1, 9)
	checkFault(t, first+"x\n2303683201 13\n", 2, 2)
	checkFault(t, first+"2303683201 13\nx\n", 2, 5)
}

// wrongLine is a line, and what is wrong with it.
type wrongLine struct {
	line string
	code api.Errno
}

// P10.2: texts without data: the line behind the last one is told, with a line feed at the end and without it.
func TestNoData(t *testing.T) {
	checkFault(t, "", 1, 2)
	for s, line := range map[string]int{
		"\n": 2, "\r\n": 2, "\r": 2, "\n\n": 3, "\n\r": 3, " ": 2, "\t\n": 2, "#": 2, "#\n": 2, "#\n ": 3, "# a\n#": 3, "# a\n#\n": 3, "# a\n#\n\n": 4,
		"#$ 5": 2, "#$ 5\n": 2, "#@ 5\n": 2, "#@ 3707596800\n": 2, "#h 1 2 3 4 5": 2, "#$ 5\n#@ 5\n#h 1 2 3 4 5\n": 4, "#$ 5\n#h " + digest("5") + "\n": 3, " #2272060800 10": 2,
		strings.Repeat("\n", 1000): 1001, strings.Repeat("# x\n", 999) + "#": 1001,
	} {
		checkFault(t, s, line, 2)
	}
}

// P10.1: lines are counted from 1 on, those that say nothing too; a list may be long.
func TestLongLists(t *testing.T) {
	many := strings.Repeat("\n# x\r\n \t\n#\n", 25000)
	checkParse(t, many+first+many+second+many, table(911))
	checkFault(t, many+first+many+second+many+"x", 300003, 2)
	checkFault(t, many+"#@ 5\n"+first+many, 100001, 9)
	checkFault(t, many+first+many+"#h 1 2 3 4 5\n"+many, 200002, 3)
	long := strings.Repeat("# x \t\xff", 100000)
	checkParse(t, first+"2287785600 11"+long+"\n"+long, table(911))
	checkFault(t, first+strings.Repeat("1 ", 100000), 2, 2)
	checkFault(t, first+"#h"+strings.Repeat(" 1", 100000), 2, 2)
}

// listOf tells the lines of data of these days, of -1 below 0.
func listOf(days ...int) string {
	s, count := first, 10
	for _, d := range days {
		if d < 0 {
			d, count = -d, count-2
		}
		count++
		s += behind(d, count)
	}
	return s
}

// P10.1: as many leaps as there may be, and one more; what is told of that one ahead, and behind it.
func TestMostLeaps(t *testing.T) {
	ends := monthEnds(730, 202)
	for _, n := range []int{0, 1, 199, 200} {
		checkParse(t, listOf(ends[:n]...), table(ends[:n]...))
		w := waves(730, n)
		checkParse(t, listOf(w...), table(w...))
		checkParse(t, "#@ "+lastNtp+"\n"+listOf(w...), until(table(w...), lastSecond))
	}
	full := listOf(ends[:200]...)
	for line, e := range map[string]api.Errno{
		behind(ends[200], 211): 8, behind(ends[200], 209): 8, behind(ends[200]+1, 211): 8, behind(5, 211): 8, behind(2932896, 209): 8, behind(911, 211): 8, behind(ends[199], 211): 8,
		behind(ends[200], 210): 6, behind(ends[200], 212): 6, "5 211": 5, "5 5": 5, "x": 2, "5": 2,
	} {
		line = strings.TrimSpace(line)
		checkFault(t, full+line, 202, e)
		checkFault(t, "\n"+full+"#\n"+line+"\n"+behind(ends[201], 212), 204, e)
	}
}

// P10.1: counts go down to 0, and no further.
func TestCountsDownToNone(t *testing.T) {
	var days []int
	for _, d := range monthEnds(730, 11) {
		days = append(days, -d)
	}
	checkParse(t, listOf(days[:10]...), table(days[:10]...))
	checkParse(t, listOf(append(days[:10:10], -days[10])...), table(append(days[:10:10], -days[10])...))
	checkFault(t, listOf(days...), 12, 2)
}

// P10.3: written out: a table without leaps, with leaps of both Steps, with an expiry and without.
func TestTextByHand(t *testing.T) {
	checkText(t, api.Table{}, 0, "#$\t0\n2272060800\t10\n#h\t"+digest("0227206080010")+"\n")
	checkText(t, api.Table{Leaps: []api.Leap{}}, 7, "#$\t7\n2272060800\t10\n#h\t"+digest("7227206080010")+"\n")
	checkText(t, until(api.Table{}, 63072000), 5, "#$\t5\n#@\t2272060800\n2272060800\t10\n#h\t"+digest("52272060800227206080010")+"\n")
	checkText(t, until(api.Table{}, lastSecond), 5, "#$\t5\n#@\t255611289599\n2272060800\t10\n#h\t"+digest("5255611289599227206080010")+"\n")
	checkText(t, table(911), 42, "#$\t42\n2272060800\t10\n2287785600\t11\n#h\t"+digest("42227206080010228778560011")+"\n")
	checkText(t, table(-911), 42, "#$\t42\n2272060800\t10\n2287785600\t9\n#h\t"+digest("4222720608001022877856009")+"\n")
	checkText(t, until(table(911, -1095, 1460), 200000000), 42, "#$\t42\n#@\t2408988800\n2272060800\t10\n2287785600\t11\n2303683200\t10\n2335219200\t11\n#h\t"+digest("422408988800227206080010228778560011230368320010233521920011")+"\n")
	checkText(t, until(table(2932865), 2932866*86400), 1, "#$\t1\n#@\t255608611200\n2272060800\t10\n255608611200\t11\n#h\t"+digest("125560861120022720608001025560861120011")+"\n")
	s, _ := Text(until(table(published...), 1498608000), 3676924800)
	if !strings.HasSuffix(s, "\n3692217600\t37\n#h\tdacf2c42 2c4765d6 3c797af8 2cf630eb 699c8c67\n") || strings.Count(s, "\n") != 31 {
		t.Errorf("%q", s)
	}
}

// P10.3: stamps of 0, of the greatest number, and those below 0.
func TestStampsOfText(t *testing.T) {
	for _, stamp := range []int{0, 1, 9, 10, 3676924800, 1<<32 - 1, 1 << 32, api.MaxInt - 1, api.MaxInt} {
		n := strconv.Itoa(stamp)
		checkText(t, table(911), stamp, "#$\t"+n+"\n2272060800\t10\n2287785600\t11\n#h\t"+digest(n+"227206080010228778560011")+"\n")
	}
	for _, stamp := range []int{-1, -2, -2208988800, -1 << 32, api.MinInt + 1, api.MinInt} {
		checkNoText(t, table(911), stamp)
		checkNoText(t, api.Table{}, stamp)
		checkNoText(t, until(table(published...), 1498608000), stamp)
	}
}

// P10.3: tables that are not right have no list: of each error, and of a wrong expiry.
func TestTextOfWrongTables(t *testing.T) {
	for _, x := range []api.Table{
		table(912), table(729), table(730), table(0), table(2932896), table(api.MaxInt), table(911, 911), table(1095, 911), table(911, 1095, 1000), {Leaps: []api.Leap{{}}},
		{Leaps: []api.Leap{{Day: 911}}}, {Leaps: []api.Leap{{Day: 911, Step: 2}}}, {Leaps: []api.Leap{{Day: 911, Step: -2}}}, {Leaps: []api.Leap{{Day: 911, Step: api.MaxInt}}}, {Leaps: []api.Leap{{Day: 911, Step: 1}, {Day: 1095, Step: api.MinInt}}}, {Leaps: []api.Leap{{Day: api.MinInt, Step: 1}}},
		table(monthEnds(730, 201)...), {Expires: 1}, {Expires: -1}, {Expires: 78796800, Leaps: table(911).Leaps}, {Has: true}, until(api.Table{}, 63071999), until(table(911), 78796799), until(table(911), lastSecond+1), until(api.Table{}, api.MaxInt), until(api.Table{}, api.MinInt), until(api.Table{}, -2208988801),
	} {
		for _, stamp := range []int{0, 5, -1, api.MaxInt} {
			checkNoText(t, x, stamp)
		}
	}
}

// P10.3: tables with a Roll have none, at whichever place it is, with its other leaps right.
func TestTextOfRolls(t *testing.T) {
	for k := range published {
		x := table(published...)
		x.Leaps[k].Roll = true
		checkNoText(t, x, 5)
		checkNoText(t, until(x, lastSecond), 5)
	}
	checkNoText(t, api.Table{Leaps: []api.Leap{{Day: 911, Step: -1, Roll: true}}}, 0)
}

// P10.3: counts that are below 0, at the end, and on the way alone, have no list; 0 has one.
func TestTextOfCountsBelowNone(t *testing.T) {
	ends := monthEnds(730, 40)
	down := func(n int) []int {
		var all []int
		for _, d := range ends[:n] {
			all = append(all, -d)
		}
		return all
	}
	for n := range 30 {
		for up := range 10 {
			days := append(down(n), ends[n:n+up]...)
			x := table(days...)
			if n > 10 {
				checkNoText(t, x, 5)
				checkNoText(t, until(x, lastSecond), 5)
				continue
			}
			if s, ok := Text(x, 5); !ok || !strings.Contains(s, strings.ReplaceAll("\n"+listOf(days...)+"#h", " ", "\t")) {
				t.Errorf("Text of %v: %q, %t", days, s, ok)
			}
		}
	}
}

// P10.4: written out: words as they are written, of stamps, expiries and data in whatever order; lines that are not right are passed over.
func TestHashByHand(t *testing.T) {
	for s, hashed := range map[string]string{
		"": "", "\n": "", "#\n# x\n": "", "x": "", "5": "", "5 6 7": "",
		"5 6": "56", "5 6\n": "56", " 5\t6 \r\n": "56", "5 6 # 7": "56", "5 6#7": "56", "005 0006": "0050006", "5 6\n7 8\n": "5678", "7 8\n5 6\n": "7856", "5 6\n\n# 1 2\n 7 8": "5678", "5 6\nx\n7 8\n9": "5678", "5 6\n5 6\n": "5656",
		"#$ 5": "5", "#$5": "5", "#$\t005\t": "005", "#$ 5\n#$ 6\n": "56", "#$ 6\n#$ 5\n": "65", "#$ 5 6": "", "#$ x\n#$ 7": "7", " #$ 5": "", "# $ 5": "",
		"#@ 5": "5", "#@5": "5", "#@\t005\t": "005", "#@ 5\n#@ 6\n": "56", "#@ 5 6": "", "#@ x\n#@ 7": "7", " #@ 5": "",
		"#h 1 2 3 4 5": "", "#h 1": "", "#h": "", "#h 1 2 3 4 5\n5 6": "56", "5 6\n#h x": "56",
		"#$ 1\n#@ 2\n3 4": "1234", "#@ 2\n#$ 1\n3 4": "1234", "3 4\n#@ 2\n#$ 1": "1234", "3 4\n#$ 1\n#@ 2\n": "1234", "#@ 2\n3 4\n#$ 1\n": "1234", "#$ 1\n3 4\n#@ 2\n": "1234",
		"5 6\n#@ 3\n#$ 1\n7 8\n#@ 4\n#$ 2\n": "12345678", "#@ 02\n#$ 01\n#@ x\n#$\n03 04\n03\n": "01020304",
		beyond + " 6": "", "6 " + beyond: "", greatest + " 6": greatest + "6", "#$ " + greatest: greatest, "#$ " + beyond: "", "#@ " + beyond: "", "#@ 000" + greatest: "000" + greatest,
		"-5 6": "", "5 +6": "", "5 6\u00a0": "", "\xff 6": "", "5 6 \xff": "", "5 6#\xff": "56", "5 6\r\r\n": "", "5 6\r": "56", "#$ 5\r\r\n": "", "#$ 5\r\n": "5", "\r#$ 5": "",
		first + second: "227206080010228778560011", "#$\t42\n#@\t2408988800\n2272060800\t10\n": "422408988800227206080010",
	} {
		checkHash(t, s, hashed)
	}
	for _, line := range wrongData() {
		checkHash(t, "#@ 2\n"+line+"\n#$ 1\n3 4\n", "1234")
	}
}

// P10.4: much that is hashed: of each length about blocks, and far behind them.
func TestHashOfMuch(t *testing.T) {
	for n := range 300 {
		checkHash(t, strings.Repeat("5 6\n", n), strings.Repeat("56", n))
		checkHash(t, "1 1\n#@ "+strings.Repeat("0", n)+"\n#$ "+strings.Repeat("0", n)+"1", strings.Repeat("0", n)+"1"+strings.Repeat("0", n)+"11")
	}
	checkHash(t, strings.Repeat("7 8 # x\n#@ 3\nx\n#$ 1\n", 50000), strings.Repeat("1", 50000)+strings.Repeat("3", 50000)+strings.Repeat("78", 50000))
}

// P10.5: what was written is read as it was, and is told again; so with blanks, remarks and ends of lines of other kinds.
func TestTextsAreReadAsTheyWere(t *testing.T) {
	var all []api.Table
	for n := range 201 {
		if n < 15 || n%20 == 7 || n > 198 {
			all = append(all, table(waves(730+29*n, n)...), table(monthEnds(730, n)...))
		}
	}
	all = append(all, table(published...), table(760), table(-760), table(2932865), table(760, -2932865))
	for k, x := range all {
		behindAll := 63072000
		if n := len(x.Leaps); n > 0 {
			behindAll = (x.Leaps[n-1].Day + 1) * 86400
		}
		for _, x := range []api.Table{x, until(x, behindAll), until(x, behindAll+k), until(x, lastSecond)} {
			s, ok := Text(x, k)
			if !ok {
				t.Fatalf("%s has no text", brief(x))
			}
			checkParse(t, s, x)
			checkParse(t, strings.ReplaceAll(s, "\n", "\r\n"), x)
			checkParse(t, "\n# x\n"+strings.ReplaceAll(s, "\t", " \t "), x)
			checkParse(t, strings.TrimSuffix(s, "\n"), x)
			y, _ := Parse(s)
			checkText(t, y, k, s)
		}
	}
}

// P10.2, P10.5: what was written, with another digit somewhere, is another list or none, but never one whose hash is right.
func TestTextsWithAnotherDigit(t *testing.T) {
	s, _ := Text(until(table(published[:5]...), 1498608000), 3676924800)
	for k := range s {
		if s[k] < '0' || s[k] > '9' {
			continue
		}
		for c := byte('0'); c <= '9'; c++ {
			other := s[:k] + string([]byte{c}) + s[k+1:]
			x, f := Parse(other)
			if (f.Code == 0) != (c == s[k]) || f.Code != 0 && !same(x, api.Table{}) {
				t.Errorf("%q: %s, %v", other, brief(x), f)
			}
		}
	}
}

// W6: an answer is new memory each time, with its spare room.
func TestAnswersShareNothing(t *testing.T) {
	for _, n := range []int{0, 1, 2, 3, 5, 27} {
		s := listOf(published[:n]...)
		x, _ := Parse(s)
		whole := x.Leaps[:cap(x.Leaps)]
		for k := range whole {
			whole[k] = api.Leap{Day: 5, Step: 7, Roll: true}
		}
		checkParse(t, s, table(published[:n]...))
	}
}

// W6: a table that is handed in is neither changed, nor its spare room.
func TestTextChangesNothing(t *testing.T) {
	for _, n := range []int{0, 1, 2, 27} {
		whole := append(table(published[:n]...).Leaps, api.Leap{Day: 4711, Step: 5, Roll: true}, api.Leap{Day: -1})
		had := slices.Clone(whole)
		x := until(api.Table{Leaps: whole[:n]}, lastSecond)
		s, ok := Text(x, 5)
		if !ok || !slices.Equal(whole, had) || !same(x, until(table(published[:n]...), lastSecond)) {
			t.Errorf("%d leaps: %v, were %v", n, whole, had)
		}
		was := strings.Clone(s)
		clear(whole)
		if s != was {
			t.Errorf("%d leaps: the text changed with them", n)
		}
	}
}

// The lines of a list, written as patterns.
var (
	emptyLine = regexp.MustCompile(`^[ \t]*$`)
	stampLine = regexp.MustCompile(`^#\$[ \t]*([0-9]+)[ \t]*$`)
	untilLine = regexp.MustCompile(`^#@[ \t]*([0-9]+)[ \t]*$`)
	hashLine  = regexp.MustCompile(`^#h[ \t]*([0-9a-fA-F]{1,8})[ \t]+([0-9a-fA-F]{1,8})[ \t]+([0-9a-fA-F]{1,8})[ \t]+([0-9a-fA-F]{1,8})[ \t]+([0-9a-fA-F]{1,8})[ \t]*$`)
	remarked  = regexp.MustCompile(`^[ \t]*#`)
	dataLine  = regexp.MustCompile(`^[ \t]*([0-9]+)[ \t]+([0-9]+)[ \t]*(#.*)?$`)
)

// slowLine is a line of a list, read by its patterns: e, s, @, h, r or d, and its words, none where it is wrong.
type slowLine struct {
	kind    byte
	words   []string
	numbers []int
}

// slowRead tells the lines of s.
func slowRead(s string) []slowLine {
	var all []slowLine
	rows := strings.Split(s, "\n")
	if rows[len(rows)-1] == "" {
		rows = rows[:len(rows)-1]
	}
	for _, row := range rows {
		row = strings.TrimSuffix(row, "\r")
		l := slowLine{kind: 'd'}
		pattern := dataLine
		switch {
		case emptyLine.MatchString(row):
			l.kind, pattern = 'e', emptyLine
		case strings.HasPrefix(row, "#$"):
			l.kind, pattern = 's', stampLine
		case strings.HasPrefix(row, "#@"):
			l.kind, pattern = '@', untilLine
		case strings.HasPrefix(row, "#h"):
			l.kind, pattern = 'h', hashLine
		case remarked.MatchString(row):
			l.kind, pattern = 'r', remarked
		}
		if found := pattern.FindStringSubmatch(row); found != nil {
			l.take(found[1:])
		}
		all = append(all, l)
	}
	return all
}

// take keeps the words of a line, if its numbers are not too great.
func (l *slowLine) take(words []string) {
	if l.kind == 'd' {
		words = words[:2]
	}
	for _, w := range words {
		n, ok := new(big.Int).SetString(w, map[bool]int{true: 16, false: 10}[l.kind == 'h'])
		if !ok || !n.IsInt64() {
			l.numbers = nil
			return
		}
		l.numbers = append(l.numbers, int(n.Int64()))
	}
	l.words = words
}

// slowHashed tells what is hashed of s.
func slowHashed(all []slowLine) string {
	var hashed string
	for _, kind := range "s@d" {
		for _, l := range all {
			if l.kind == byte(kind) {
				hashed += strings.Join(l.words, "")
			}
		}
	}
	return hashed
}

// slowParse is another way to Parse: by patterns, and by the library's calendar and digests.
func slowParse(s string) (api.Table, api.Fault) {
	all := slowRead(s)
	var x api.Table
	where := map[byte]int{}
	said := map[byte][]int{}
	for k, l := range all {
		e := firstOf(
			wrong{l.words == nil && strings.Contains("s@hd", string(rune(l.kind))), 2},
			wrong{where[l.kind] > 0 && strings.Contains("s@h", string(rune(l.kind))), 2},
		)
		if e == 0 && l.kind == 'd' {
			e = slowData(&x, l.numbers, said['d'])
		}
		if e != 0 {
			return api.Table{}, api.Fault{Line: k + 1, Code: e}
		}
		if where[l.kind] == 0 {
			where[l.kind] = k + 1
		}
		said[l.kind] = l.numbers
	}
	if where['d'] == 0 {
		return api.Table{}, api.Fault{Line: len(all) + 1, Code: 2}
	}
	if at := where['@']; at > 0 {
		least := 63072000
		if n := len(x.Leaps); n > 0 {
			least = (x.Leaps[n-1].Day + 1) * 86400
		}
		x = until(x, said['@'][0]-2208988800)
		if x.Expires < least || x.Expires > lastSecond {
			return api.Table{}, api.Fault{Line: at, Code: 9}
		}
	}
	if at := where['h']; at > 0 {
		h := ""
		for _, n := range said['h'] {
			h += fmt.Sprintf("%08x", n)
		}
		if h != strings.ReplaceAll(digest(slowHashed(all)), " ", "") {
			return api.Table{}, api.Fault{Line: at, Code: 3}
		}
	}
	return x, api.Fault{}
}

// slowData puts the leap of a line of data behind the others, and tells what is wrong with it.
func slowData(x *api.Table, n, ahead []int) api.Errno {
	if ahead == nil {
		return firstOf(wrong{n[0] != 2272060800 || n[1] != 10, 9})
	}
	d, step := (n[0]-2208988800)/86400-1, n[1]-ahead[1]
	outOfRange := d < 730 || d >= 2932896
	e := firstOf(wrong{n[0]%86400 != 0, 5}, wrong{step != 1 && step != -1, 6}, wrong{len(x.Leaps) == 200, 8}, wrong{outOfRange, 9}, wrong{!outOfRange && !isEnd(d), 5}, wrong{len(x.Leaps) > 0 && d <= x.Leaps[max(0, len(x.Leaps)-1)].Day, 4})
	x.Leaps = append(x.Leaps, api.Leap{Day: d, Step: step})
	return e
}

// checkAny holds Parse, Hash and Text of s against the slow ways.
func checkAny(t *testing.T, s string) {
	t.Helper()
	checkHash(t, s, slowHashed(slowRead(s)))
	x, f := slowParse(s)
	if f.Code != 0 {
		checkFault(t, s, f.Line, f.Code)
		return
	}
	checkParse(t, s, x)
	if !leap.Right(x) {
		t.Errorf("Parse(%.300q): %s is not right", s, brief(x))
	}
	if again, ok := Text(x, len(s)); !ok {
		t.Errorf("%s has no text", brief(x))
	} else {
		checkParse(t, again, x)
	}
}

// anyList tells a list that is often right, and often nearly so.
func anyList(r *rand.Rand) string {
	n := r.Intn(6)
	rows := strings.SplitAfter(listOf(waves(730+r.Intn(800), n)...), "\n")
	rows = rows[:len(rows)-1]
	put := func(at int, row string) { rows = slices.Insert(rows, at, row+"\n") }
	if r.Intn(2) == 0 {
		put(r.Intn(len(rows)+1), fmt.Sprint("#$ ", r.Intn(1000)))
	}
	if r.Intn(2) == 0 {
		put(r.Intn(len(rows)+1), fmt.Sprint("#@ ", 2272060800+r.Intn(40)*4320000))
	}
	for range r.Intn(3) {
		odd := []string{"", " \t", "# x", " #$ 5", "#x", "\t#@", "5 6", "x", "#$", "#@ 5", "#h 1 2 3 4 5", "2272060800 10", "2287785600 11", "2303683201 11", "#$ 7\r", "#@ " + lastNtp, "2272060800 11"}
		put(r.Intn(len(rows)+1), odd[r.Intn(7+r.Intn(len(odd)-6))])
	}
	if r.Intn(2) == 0 {
		put(r.Intn(len(rows)+1), "#h "+digest(slowHashed(slowRead(strings.Join(rows, "")))))
	}
	if r.Intn(4) == 0 {
		a, b := r.Intn(len(rows)), r.Intn(len(rows))
		rows[a], rows[b] = rows[b], rows[a]
	}
	return strings.Join(rows, "")
}

// broken tells s with another byte, one more, one less, or as it is.
func broken(r *rand.Rand, s string) string {
	const bytes = "0123456789abf #$@h\t\r\n\xff"
	k, c := r.Intn(len(s)), string([]byte{bytes[r.Intn(len(bytes))]})
	switch r.Intn(6) {
	case 0:
		return s[:k] + c + s[k+1:]
	case 1:
		return s[:k] + c + s[k:]
	case 2:
		return s[:k] + s[k+1:]
	default:
		return s
	}
}

// P10.1 to P10.5: many lists, against the slow ways.
func TestAnyLists(t *testing.T) {
	r := rand.New(rand.NewSource(10))
	told := map[api.Errno]int{}
	for range 30000 {
		s := broken(r, anyList(r))
		checkAny(t, s)
		_, f := Parse(s)
		told[f.Code]++
	}
	for _, e := range []api.Errno{0, 2, 3, 4, 5, 6, 9} {
		if told[e] < 100 {
			t.Errorf("the error %d was told %d times alone", e, told[e])
		}
	}
}

// P10.1: all texts of up to four pieces, of those that lines are made of.
func TestShortTexts(t *testing.T) {
	pieces := []string{"\n", "\r", " ", "\t", "#", "#$", "#@", "#h", "5", "2272060800 10", "2287785600 11", "x"}
	var walk func(s string, n int)
	walk = func(s string, n int) {
		checkAny(t, s)
		if n == 0 {
			return
		}
		for _, p := range pieces {
			walk(s+p, n-1)
		}
	}
	walk("", 4)
	for _, p := range pieces {
		walk("2272060800 10\n"+p, 3)
	}
}

// W2: the same is answered each time, also by calls at the same time.
func TestCallsAtTheSameTime(t *testing.T) {
	want := until(table(published...), 1498608000)
	var all sync.WaitGroup
	for n := range 16 {
		all.Go(func() {
			s, ok := Text(want, n)
			for range 50 {
				x, f := Parse(s)
				again, _ := Text(x, n)
				if !ok || f.Code != 0 || !same(x, want) || again != s || Hash(s) != Hash(again) {
					t.Errorf("%s, %v, at the same time as others", brief(x), f)
				}
			}
		})
	}
	all.Wait()
}

// W1, P10.1 to P10.5: whatever text.
func FuzzList(f *testing.F) {
	f.Add("", 0)
	f.Add(publishedList("3676924800", "3707596800", "dacf2c42 2c4765d6 3c797af8 2cf630eb 699c8c67"), 5)
	f.Add("#$ 5\n#@ 3707596800\n"+first+second+third+"#h 1 2 3 4 5\n", -1)
	for _, line := range slices.Concat(remarks(), wrongData()) {
		f.Add(first+line+"\r\n"+second, api.MaxInt)
	}
	f.Fuzz(func(t *testing.T, s string, stamp int) {
		checkAny(t, s)
		x, _ := Parse(s)
		text, ok := Text(x, stamp)
		if ok != (stamp >= 0) || !ok && text != "" || ok && !strings.HasPrefix(text, fmt.Sprintf("#$\t%d\n", stamp)) {
			t.Errorf("Text(%s, %d): %q, %t", brief(x), stamp, text, ok)
		}
	})
}
