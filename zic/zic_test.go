package zic

import (
	"fmt"
	"math/big"
	"math/rand"
	"regexp"
	"slices"
	"strings"
	"sync"
	"testing"
	"time"

	"epact/api"
	"epact/leap"
)

const (
	// Leap lines of the days 911, 1095 and 1460, and an expiry line behind them.
	first   = "Leap 1972 Jun 30 23:59:60 + S\n"
	second  = "Leap 1972 Dec 31 23:59:60 + S\n"
	third   = "Leap 1973 Dec 31 23:59:60 + S\n"
	expires = "Expires 2017 Jun 28 00:00:00\n"

	// expired is the POSIX second of that expiry, lastSecond that of the last one of the year 9999.
	expired    = 1498608000
	lastSecond = 253402300799

	// greatest is the greatest number that an int holds, beyond the next one.
	greatest = "9223372036854775807"
	beyond   = "9223372036854775808"
)

// published are the days at whose ends seconds were inserted, of 1972 to 2016.
var published = []int{911, 1095, 1460, 1825, 2190, 2556, 2921, 3286, 3651, 4198, 4563, 4928, 5659, 6573, 7304, 7669, 8216, 8581, 8946, 9495, 10042, 10591, 13148, 14244, 15521, 16616, 17166}

// monthNames are the names of the months, as Text tells them, and the rest of them.
var monthNames = []string{"Jan", "Feb", "Mar", "Apr", "May", "Jun", "Jul", "Aug", "Sep", "Oct", "Nov", "Dec"}
var monthRests = []string{"uary", "ruary", "ch", "il", "", "e", "y", "ust", "tember", "ober", "ember", "ember"}

// table tells a table of leaps: of days, 1, but those below 0, which are of -1.
func table(days ...int) api.Table {
	var t api.Table
	for _, d := range days {
		l := api.Leap{Day: d, Step: 1}
		if d < 0 {
			l = api.Leap{Day: -d, Step: -1}
		}
		t.Leaps = append(t.Leaps, l)
	}
	return t
}

// rolled tells t with those leaps as leaps of local time.
func rolled(t api.Table, places ...int) api.Table {
	t.Leaps = slices.Clone(t.Leaps)
	for _, k := range places {
		t.Leaps[k].Roll = true
	}
	return t
}

// until tells t with an expiry.
func until(t api.Table, p int) api.Table {
	t.Has, t.Expires = true, p
	return t
}

// same holds two tables against each other, field by field.
func same(a, b api.Table) bool {
	if len(a.Leaps) != len(b.Leaps) || a.Has != b.Has || a.Expires != b.Expires {
		return false
	}
	for k := range a.Leaps {
		if a.Leaps[k].Day != b.Leaps[k].Day || a.Leaps[k].Step != b.Leaps[k].Step || a.Leaps[k].Roll != b.Leaps[k].Roll {
			return false
		}
	}
	return true
}

// dateOf tells by the library's calendar the date of d.
func dateOf(d int) time.Time {
	return time.Unix(int64(d)*86400, 0).UTC()
}

// isEnd tells by the library's calendar whether the day behind d begins a month.
func isEnd(d int) bool {
	return dateOf(d+1).Day() == 1
}

// monthEnds tells the first n days from d on that are the last of their month.
func monthEnds(d, n int) []int {
	var all []int
	for ; len(all) < n; d++ {
		if isEnd(d) {
			all = append(all, d)
		}
	}
	return all
}

// mixed tells a right table of n leaps, every third one of which is removed, and every fourth one of local time.
func mixed(d, n int) api.Table {
	t := table(monthEnds(d, n)...)
	for k := range t.Leaps {
		t.Leaps[k].Roll = k%4 == 3
		if k%3 == 1 {
			t.Leaps[k].Step = -1
		}
	}
	return t
}

// lineOf tells the line of a leap, as a published source has it.
func lineOf(l api.Leap) string {
	end := map[bool]string{true: "23:59:60\t+", false: "23:59:59\t-"}[l.Step == 1]
	return "Leap\t" + dateOf(l.Day).Format("2006\tJan\t2") + "\t" + end + "\t" + map[bool]string{true: "R", false: "S"}[l.Roll] + "\n"
}

// sourceOf tells the lines of the leaps of t.
func sourceOf(t api.Table) string {
	s := ""
	for _, l := range t.Leaps {
		s += lineOf(l)
	}
	return s
}

// cases tells s in small letters, in great ones, and in both kinds of mixtures.
func cases(s string) []string {
	small, great := strings.ToLower(s), strings.ToUpper(s)
	one, other := []byte(small), []byte(great)
	for k := 1; k < len(s); k += 2 {
		one[k], other[k] = great[k], small[k]
	}
	return []string{s, small, great, string(one), string(other)}
}

// brief tells the text of x, or what it begins with.
func brief(x any) string {
	return fmt.Sprintf("%.300s", fmt.Sprintf("%+v", x))
}

func checkParse(t *testing.T, s string, want api.Table) {
	t.Helper()
	if x, f := Parse(s); f != (api.Fault{}) || !same(x, want) {
		t.Errorf("Parse(%.300q): %s, %v; want %s", s, brief(x), f, brief(want))
	}
}

func checkFault(t *testing.T, s string, line int, code api.Errno) {
	t.Helper()
	if x, f := Parse(s); f.Line != line || f.Code != code || !same(x, api.Table{}) {
		t.Errorf("Parse(%.300q): %s, %v; want the fault %d in line %d", s, brief(x), f, code, line)
	}
}

// checkWrong tells a line that is wrong, of whatever stands about it.
func checkWrong(t *testing.T, line string, code api.Errno) {
	t.Helper()
	checkFault(t, line, 1, code)
	checkFault(t, line+"\r\n"+second, 1, code)
	checkFault(t, "# x\n\n"+line+"\n", 3, code)
	checkFault(t, first+line+"\n"+third, 2, code)
	checkFault(t, first+second+"\n"+line, 4, code)
}

func checkText(t *testing.T, x api.Table, want string) {
	t.Helper()
	if s, ok := Text(x); s != want || !ok {
		t.Errorf("Text(%s): %q, %t; want %q", brief(x), s, ok, want)
	}
}

func checkNoText(t *testing.T, x api.Table) {
	t.Helper()
	if s, ok := Text(x); s != "" || ok {
		t.Errorf("Text(%s): %q, %t; want none", brief(x), s, ok)
	}
}

func checkMonth(t *testing.T, s string, want int) {
	t.Helper()
	if m, ok := Month(s); m != want || ok != (want != 0) {
		t.Errorf("Month(%q): %d, %t; want %d", s, m, ok, want)
	}
}

func checkClock(t *testing.T, s string, want int) {
	t.Helper()
	if sec, ok := Clock(s); sec != want || !ok {
		t.Errorf("Clock(%q): %d, %t; want %d", s, sec, ok, want)
	}
}

func checkNoClock(t *testing.T, s string) {
	t.Helper()
	if sec, ok := Clock(s); sec != 0 || ok {
		t.Errorf("Clock(%q): %d, %t; want none", s, sec, ok)
	}
}

// P11.1: written out: the chapter's example.
func TestExample(t *testing.T) {
	x, f := Parse("Leap 1972 Jun 30 23:59:60 + S")
	if len(x.Leaps) != 1 || x.Leaps[0] != (api.Leap{Day: 911, Step: 1}) || x.Has || x.Expires != 0 || f != (api.Fault{}) {
		t.Errorf("%v, %v", x, f)
	}
}

// P11.1, P11.2: a source in the shape in which such sources are published, with an expiry and with one that is a remark.
func TestPublishedSource(t *testing.T) {
	s := "# Allowance for leap seconds added to each time zone file.\n\n# Leap\tYEAR\tMONTH\tDAY\tHH:MM:SS\tCORR\tR/S\n" + sourceOf(table(published...)) + "\n# UTC timestamp when this leap second list expires.\n"
	checkParse(t, s+"#Expires 2017\tJun\t28\t00:00:00\n", table(published...))
	checkParse(t, s+"Expires 2017\tJun\t28\t00:00:00\n", until(table(published...), expired))
	checkParse(t, s+"Expires 2017\tJun\t28\t01:02:03", until(table(published...), expired+3723))
	checkFault(t, s+"Expires 2016\tDec\t31\t23:59:59\n", 33, 9)
}

// P11.1, P11.2: texts without leaps, and without anything.
func TestEmptySources(t *testing.T) {
	for _, s := range []string{"", "\n", "\r", "\r\n", "\n\n", " ", "\t\n", "#", "#\n", "# x", "# x\n", " # x\r\n\n", "#" + first, strings.Repeat("\n", 1000), strings.Repeat(" #\n", 1000) + "#"} {
		checkParse(t, s, api.Table{})
	}
	checkParse(t, "Expires 1972 Jan 1 0:0:0", until(api.Table{}, 63072000))
	checkParse(t, "#\n"+expires+"\n", until(api.Table{}, expired))
}

// remarks tells lines without a word.
func remarks() []string {
	return []string{
		"", " ", "\t", " \t \t",
		"#", "# ", "#\t", "##", "#x", "# x y z", " #", "\t# x", "  \t#x", "#\r", " # \r", "#\r\r", "# x\r", "#Leap", "# Leap 1972 Jun 30 23:59:60 + S", " #Expires 2017 Jun 28 00:00:00",
		"#\x00", "#\xff", "#\u00e4", "#\u20ac", " \t#\xc3", "#\v#",
	}
}

// P11.1: lines without a word say nothing, wherever they stand, as often as they stand; but they are counted.
func TestLinesWithoutAWord(t *testing.T) {
	all := []string{"Leap 1972 Jun 30 23:59:60 + S", "Leap 1972 Dec 31 23:59:59 - R", "Expires 2017 Jun 28 00:00:00"}
	want := rolled(until(table(911, -1095), expired), 1)
	for _, r := range remarks() {
		for k := range len(all) + 1 {
			for n := range 3 {
				rows := slices.Concat(all[:k], slices.Repeat([]string{r}, n), all[k:])
				for _, end := range []string{"\n", "\r\n"} {
					s := strings.Join(rows, end)
					checkParse(t, s, want)
					checkParse(t, s+end, want)
					checkFault(t, s+end+"x", n+4, 2)
				}
			}
		}
	}
}

// P11.1: lines that are no remarks, for they have a word; blanks are spaces and tabs alone.
func TestLinesWithAWord(t *testing.T) {
	for _, line := range []string{"x", "x#", "x #", " x", "\v", "\f", "\x00", "\r\r", "\r \r", "\r#", "\r #", "\u00a0", "\u00a0#", "\u2003", "\ufeff", "\xff", "\xff#", "\xc2", ";", "// x", "* # x", "-", "+", "0", "Leap", "leap #", "Expires", "expires#", "S", "\x0b# x", "\x1c"} {
		checkWrong(t, line, 2)
	}
}

// P11.1: what stands behind the first # says nothing, whatever it is, and wherever that stands.
func TestRemarksBehindWords(t *testing.T) {
	for _, r := range []string{"#", " #", "\t#", "# x", " # x # y", "##", "#+", "#\xff\x00", "# \r", "#\r\r", " #S", "#R", "# Leap 1972 Jun 30 23:59:60 + S"} {
		checkParse(t, "Leap 1972 Jun 30 23:59:60 + S"+r, table(911))
		checkParse(t, "Leap 1972 Jun 30 23:59:60 + S"+r+"\r\n"+second, table(911, 1095))
		checkParse(t, first+"Expires 2017 Jun 28 00:00:00"+r, until(table(911), expired))
		checkParse(t, "Expires 2017 Jun 28 00:00:00"+r+"\n"+first, until(table(911), expired))
		for k := range len("Leap 1972 Jun 30 23:59:60 + ") {
			if k > 0 {
				checkWrong(t, first[:k]+r+first[k:len(first)-1], 2)
				checkWrong(t, first[:k]+r, 2)
			}
		}
		for k := range len("Expires 2017 Jun 28 ") {
			if k > 0 {
				checkWrong(t, expires[:k]+r+expires[k:len(expires)-1], 2)
				checkWrong(t, expires[:k]+r, 2)
			}
		}
	}
	checkWrong(t, "Expires 2017 Jun 28 00:00#:00", 2)
	checkParse(t, "Expires 2017 Jun 28 00:00:1#0", until(api.Table{}, expired+1))
}

// spaced tells words with blanks of all kinds ahead, between and behind.
func spaced(words ...string) []string {
	return []string{
		strings.Join(words, " "), strings.Join(words, "\t"), strings.Join(words, " \t "), "  " + strings.Join(words, "  "), "\t" + strings.Join(words, "\t\t") + "\t", " \t " + strings.Join(words, " ") + " \t",
		strings.Join(words, " ") + "\r", strings.Join(words, "\t") + " \r", " " + strings.Join(words, "\t"),
	}
}

// P11.1: leap lines in all letters, with all blanks, with noughts ahead, with months and clocks in all forms.
func TestFormsOfLeapLines(t *testing.T) {
	for _, word := range cases("Leap") {
		for _, month := range cases("June") {
			for _, line := range spaced(word, "1972", month, "30", "23:59:60", "+", "S") {
				checkParse(t, line, table(911))
				checkParse(t, line+"\n"+second, table(911, 1095))
			}
		}
	}
	for _, y := range []string{"1972", "01972", "00000000000000000000000000000000001972"} {
		for _, m := range []string{"Jun", "june", "JUN"} {
			for _, d := range []string{"30", "030", "0000000000000000000000000000000000030"} {
				for _, line := range spaced("Leap", y, m, d, "23:59:60", "+", "s") {
					checkParse(t, line, table(911))
				}
				for _, line := range spaced("leaP", y, m, d, "23:59:59", "-", "roll") {
					checkParse(t, line, rolled(table(-911), 0))
				}
			}
		}
	}
}

// P11.1: expiry lines in all letters, with all blanks, with noughts ahead, with months and clocks in all forms, ahead of a leap and behind it.
func TestFormsOfExpiryLines(t *testing.T) {
	for _, word := range cases("Expires") {
		for _, month := range cases("June") {
			for clock, sec := range map[string]int{"0:0:0": 0, "00:00:00": 0, "1:2:3": 3723, "01:02:03": 3723, "23:59:59": 86399, "12:0:7": 43207} {
				for _, line := range spaced(word, "02017", month, "028", clock) {
					checkParse(t, line, until(api.Table{}, expired+sec))
					checkParse(t, line+"\n"+first, until(table(911), expired+sec))
					checkParse(t, first+line+"\n"+second, until(table(911, 1095), expired+sec))
					checkParse(t, first+line, until(table(911), expired+sec))
				}
			}
		}
	}
}

// P11.1: each beginning of both kinds of leaps, in any letters.
func TestKindsOfLeaps(t *testing.T) {
	for _, name := range []string{"rolling", "stationary"} {
		for k := range len(name) {
			for _, kind := range cases(name[:k+1]) {
				want := table(911)
				if name == "rolling" {
					want = rolled(want, 0)
				}
				checkParse(t, "Leap 1972 Jun 30 23:59:60 + "+kind, want)
				want.Leaps[0].Step = -1
				checkParse(t, "Leap 1972 Jun 30 23:59:59 - "+kind, want)
				want.Leaps = append(want.Leaps, api.Leap{Day: 1095, Step: 1})
				checkParse(t, "Leap 1972 Jun 30 23:59:59 - "+kind+"\r\n"+second, want)
				for _, more := range []string{"x", "s", "z", ".", "-", "\x00", "\xff", "\u00e4", kind} {
					checkWrong(t, "Leap 1972 Jun 30 23:59:60 + "+kind+more, 2)
				}
			}
		}
	}
	for _, kind := range []string{"rollings", "stationarys", "t", "o", "g", "y", "x", "olling", "tationary", "rs", "sr", "sl", "ro11", "S/R", "+", "-", "1", "\u017f", "\u017ftat", "\u0280", "roll\u0130ng", "stat\u0130", "STAT\u0130ONARY", "\xff", "r\x00", "Stationary,", "\rs", "\u00a0s", "stationary rolling"} {
		checkWrong(t, "Leap 1972 Jun 30 23:59:60 + "+kind, 2)
		checkWrong(t, "Leap 1972 Jun 30 23:59:59 - "+kind, 2)
	}
}

// P11.1: lines with a word too few and too many, and with another first word.
func TestWrongWords(t *testing.T) {
	for _, s := range []string{first[:len(first)-1], expires[:len(expires)-1]} {
		words := strings.Fields(s)
		for k := range words {
			checkWrong(t, strings.Join(slices.Delete(slices.Clone(words), k, k+1), " "), 2)
			checkWrong(t, strings.Join(slices.Insert(slices.Clone(words), k, words[k]), "\t"), 2)
			checkWrong(t, strings.Join(slices.Insert(slices.Clone(words), k, "x"), " "), 2)
			if k+1 < len(words) {
				checkWrong(t, strings.Join(words[:k+1], " ")+strings.Join(words[k+1:], " "), 2)
			}
		}
		for _, more := range []string{" x", " S", " 0", "\t+", " x y", " \xff", " \r\r", " " + s} {
			checkWrong(t, s+more, 2)
		}
	}
	for _, word := range []string{"Lea", "L", "Leaps", "Leap:", "Le", "xLeap", "eap", "Zone", "Rule", "Link", "Expires", "Exp", "+", "1972", "L\u00e9ap", "\ufeffLeap", "Leap\x00", "\xffLeap", "\rLeap", "Leap\r", "-Leap"} {
		checkWrong(t, word+" 1972 Jun 30 23:59:60 + S", 2)
		checkWrong(t, word+" 1972 Jun 30 23:59:60 +", 2)
	}
	for _, word := range []string{"Expire", "E", "Exp", "Expiress", "Expires:", "xpires", "Leap", "2017", "#", "Expire\u017f", "EXPIRE\u017f", "Exp\u0130res", "exp\u0131res", "\ufeffExpires", "Expires\x00", "\xffexpires", "\rExpires", "Expires\r"} {
		if word != "#" {
			checkWrong(t, word+" 2017 Jun 28 00:00:00", 2)
		}
		checkWrong(t, "x "+word+" 2017 Jun 28 00:00:00", 2)
	}
	checkWrong(t, "Leap 2017 Jun 28 00:00:00", 2)
	checkWrong(t, "Expires 1972 Jun 30 23:59:60 + S", 2)
}

// P11.1: years and days that are no numbers, months that are none, clocks that are none, and signs that are none.
func TestWrongForms(t *testing.T) {
	noNumbers := []string{"x", "-1", "+30", "30.", "3O", "0x1e", "1972,", "\u0663", "\uff11", "\xff", "30\x00", "30\r", "1e3", "1_972", beyond, "9" + greatest, "18446744073709553588", "1" + strings.Repeat("0", 40)}
	for _, n := range noNumbers {
		checkWrong(t, "Leap "+n+" Jun 30 23:59:60 + S", 2)
		checkWrong(t, "Leap 1972 Jun "+n+" 23:59:60 + S", 2)
		checkWrong(t, "Expires "+n+" Jun 28 00:00:00", 2)
		checkWrong(t, "Expires 2017 Jun "+n+" 00:00:00", 2)
	}
	for _, m := range []string{"J", "Ju", "Junx", "Junes", "une", "6", "06", "x", "Jux", "Sept.", "Juni", "Mai", "Okt", "J\u00fcn", "Jun\r", "\xff\xff\xff", "+++"} {
		checkWrong(t, "Leap 1972 "+m+" 30 23:59:60 + S", 2)
		checkWrong(t, "Expires 2017 "+m+" 28 00:00:00", 2)
	}
	for _, c := range wrongClocks() {
		// Not of those that are cut by blanks, remarks or ends of lines.
		if !strings.ContainsAny(c, " \t#\r\n") && c != "" {
			checkWrong(t, "Leap 1972 Jun 30 "+c+" + S", 2)
			checkWrong(t, "Leap 1972 Jun 30 "+c+" - S", 2)
			checkWrong(t, "Expires 2017 Jun 28 "+c, 2)
		}
	}
	for _, sign := range []string{"*", "++", "--", "+-", "-+", "+1", "-1", "1", "0", "x", "S", "\u2212", "\uff0b", "\u2013", "+\r", "\xff", "=", "plus", "+\x00", ",", "."} {
		checkWrong(t, "Leap 1972 Jun 30 23:59:60 "+sign+" S", 2)
		checkWrong(t, "Leap 1972 Jun 30 23:59:59 "+sign+" S", 2)
	}
}

// P11.1: dates that are none, of leap lines and of expiry lines.
func TestNoDates(t *testing.T) {
	for _, date := range []string{
		"1972 Feb 30", "1973 Feb 29", "1973 Feb 30", "2000 Feb 30", "2100 Feb 29", "1972 Jun 31", "1972 Apr 31", "1972 Sep 31", "1972 Nov 31", "1972 Jan 32", "1972 Dec 32",
		"1972 Jan 0", "1972 Jun 0", "1972 Jun 00", "1972 Jul 0", "1972 Jun 99", "1972 Jun 130", "1972 Jun 4294967326", "1972 Jun " + greatest,
		"0 Jun 30", "0000 Dec 31", "10000 Jan 31", "10000 Jan 1", "10000 Dec 31", "11972 Jun 30", "4294969268 Jun 30", greatest + " Jun 30", greatest + " Jun " + greatest, "0 Jan 0",
	} {
		checkWrong(t, "Leap "+date+" 23:59:60 + S", 9)
		checkWrong(t, "Leap "+date+" 23:59:59 - R", 9)
		checkWrong(t, "Expires "+date+" 0:0:0", 9)
		checkWrong(t, "Expires "+date+" 23:59:59", 9)
		// Told ahead of a wrong clock, and behind a form that is wrong.
		checkWrong(t, "Leap "+date+" 23:59:59 + S", 9)
		checkWrong(t, "Leap "+date+" 0:0:0 - S", 9)
		checkWrong(t, "Expires "+date+" 23:59:60", 9)
		checkWrong(t, "Leap "+date+" 23:59:61 + S", 2)
		checkWrong(t, "Leap "+date+" 23:59:60 * S", 2)
		checkWrong(t, "Leap "+date+" 23:59:60 + X", 2)
		checkWrong(t, "Expires "+date+" 24:0:0", 2)
	}
	checkParse(t, "Leap 1972 Feb 29 23:59:60 + S", table(789))
	checkParse(t, "Leap 2000 Feb 29 23:59:60 + S", table(11016))
	checkParse(t, "Leap 2100 Feb 28 23:59:60 + S", table(47540))
	checkParse(t, "Expires 2000 Feb 29 0:0:0", until(api.Table{}, 951782400))
}

// P11.1: each sign with each clock: + has 23:59:60 alone, and - has 23:59:59 alone.
func TestSteps(t *testing.T) {
	for sec := range 86401 {
		clock := fmt.Sprintf("%d:%02d:%d", sec/3600, sec/60%60, sec%60)
		if sec == 86400 {
			clock = "23:59:60"
		}
		plus, minus := "Leap 1972 Jun 30 "+clock+" + S", "Leap 1972 Jun 30 "+clock+" - S"
		if sec == 86400 {
			checkParse(t, plus, table(911))
		} else {
			checkFault(t, plus, 1, 6)
		}
		if sec == 86399 {
			checkParse(t, minus, table(-911))
		} else {
			checkFault(t, minus, 1, 6)
		}
	}
	for _, clock := range []string{"0:0:0", "23:59:58", "12:00:00", "22:59:59", "23:58:59", "00:00:59"} {
		checkWrong(t, "Leap 1974 Dec 31 "+clock+" + S", 6)
		checkWrong(t, "Leap 1974 Dec 31 "+clock+" - R", 6)
	}
	checkWrong(t, "Leap 1974 Dec 31 23:59:59 + R", 6)
	checkWrong(t, "Leap 1974 Dec 31 23:59:60 - S", 6)
}

// ends tells what a line of an inserted and of a removed second ends with.
func ends() []string {
	return []string{" 23:59:60 + S", " 23:59:60 + R", " 23:59:59 - S", " 23:59:59 - R"}
}

// P11.1: written out: each error of leap's Check alone, of the first leap and of later ones.
func TestErrorsOfCheck(t *testing.T) {
	for _, end := range ends() {
		for _, date := range []string{"1974 Dec 30", "1974 Jun 29", "1976 Feb 28", "1974 Jan 1", "9999 Dec 30", "9999 Nov 29", "9999 Dec 1", "2000 Feb 28"} {
			checkWrong(t, "Leap "+date+end, 5)
		}
		for _, date := range []string{"1971 Dec 31", "1971 Dec 30", "1971 Jan 31", "1970 Jan 31", "1969 Dec 31", "1 Jan 31", "1 Jan 1", "9999 Dec 31", "1900 Feb 28"} {
			checkWrong(t, "Leap "+date+end, 9)
		}
		for _, date := range []string{"1972 Jun 30", "1972 Dec 31"} {
			checkFault(t, first+second+"Leap "+date+end, 3, 4)
			checkFault(t, "\n"+first+"# x\n"+second+"\r\n"+expires+"Leap "+date+end+"\n"+third, 7, 4)
			checkFault(t, third+"Leap "+date+end, 2, 4)
		}
		checkFault(t, first+second+"Leap 1972 Jan 31"+end, 3, 4)
		checkFault(t, first+second+"Leap 1972 Nov 30"+end+"\n", 3, 4)
		checkFault(t, first+"Leap 1972 Jan 1"+end, 2, 5)
		checkFault(t, first+"Leap 1972 Jan 30"+end, 2, 5)
	}
	checkFault(t, "Leap 1972 Jan 1 23:59:60 + S", 1, 5)
}

// P11.1: written out: the first and the last days that a leap may have.
func TestDaysOfLeaps(t *testing.T) {
	checkParse(t, "Leap 1972 Jan 31 23:59:60 + S", table(760))
	checkParse(t, "Leap 1972 Jan 31 23:59:59 - S\nLeap 1972 Feb 29 23:59:59 - S", table(-760, -789))
	checkParse(t, "Leap 9999 Nov 30 23:59:60 + S", table(2932865))
	checkParse(t, "Leap 1972 Jan 31 23:59:60 + S\nLeap 9999 Nov 30 23:59:59 - R", rolled(table(760, -2932865), 1))
}

// wrong is an error, and whether it holds.
type wrong struct {
	holds bool
	code  api.Errno
}

// firstOf tells the first error that holds.
func firstOf(all ...wrong) api.Errno {
	for _, w := range all {
		if w.holds {
			return w.code
		}
	}
	return 0
}

// P11.1: each day of 1969 to 2080, and of the first and the last years, against the library's calendar.
func TestEachDay(t *testing.T) {
	for d := -719162; d <= 2932896; d++ {
		switch d {
		case -719162 + 800:
			d = -400
		case 40500:
			d = 2932896 - 800
		}
		date := dateOf(d).Format("Leap 2006 January 2")
		e := firstOf(wrong{d < 730 || d >= 2932896, 9}, wrong{!isEnd(d), 5}, wrong{d <= 911, 4})
		if e != 0 {
			checkFault(t, first+date+" 23:59:60 + S", 2, e)
		} else {
			checkParse(t, first+date+" 23:59:60 + S", table(911, d))
			checkParse(t, first+date+" 23:59:59 - r", rolled(table(911, -d), 1))
		}
	}
}

// P11.1: written out: where two or more errors hold of one line, the first one that the promise names is told.
func TestErrorsOfOneLine(t *testing.T) {
	for _, x := range []struct {
		line string
		code api.Errno
	}{
		// Form ahead of all others.
		{"Leap 1972 Jun 31 23:59:59 + X", 2}, {"Leap 1972 Jun 31 23:59:60 * S", 2}, {"Leap 1972 Jun 31 24:00:00 + S", 2}, {"Leap 1971 Dec 30 23:59:60 + S S", 2}, {"Leap 1972 Jun 30 23:59:60 - x", 2}, {"Expires 1971 Feb 30 23:59:60 S", 2}, {"Expires 1971 Feb 30 23:59:61", 2}, {"Leap 0 Jun 31 0:0:60 + S", 2},
		// No date, ahead of a wrong clock, and of what Check tells.
		{"Leap 1972 Jun 31 23:59:59 + S", 9}, {"Leap 1972 Feb 30 0:0:0 - S", 9}, {"Leap 0 Jan 1 1:1:1 + S", 9}, {"Leap 10000 Dec 31 23:59:60 - S", 9}, {"Expires 1972 Feb 30 23:59:60", 9},
		// A wrong clock, ahead of what Check tells.
		{"Leap 1971 Dec 31 23:59:59 + S", 6}, {"Leap 9999 Dec 31 23:59:60 - S", 6}, {"Leap 1972 Jun 29 0:0:0 + S", 6}, {"Leap 1972 Jun 30 23:59:59 + R", 6}, {"Leap 1 Jan 1 0:0:0 + S", 6}, {"Leap 1971 Jan 1 23:59:60 - S", 6},
		// Of what Check tells: days out of bounds ahead of those that are no end, and of those that do not rise; no end ahead of the latter.
		{"Leap 1971 Dec 30 23:59:60 + S", 9}, {"Leap 1971 Dec 31 23:59:60 + S", 9}, {"Leap 1971 Jan 1 23:59:59 - R", 9}, {"Leap 1972 Jan 1 23:59:60 + S", 5}, {"Leap 1972 Jun 29 23:59:59 - S", 5}, {"Leap 1972 Dec 30 23:59:60 + S", 5}, {"Leap 1972 May 31 23:59:60 + S", 4},
	} {
		checkFault(t, first+second+x.line+"\n", 3, x.code)
		checkFault(t, "#\n"+first+"\n"+second+" "+x.line+" # x\r\nx\n", 5, x.code)
		if strings.HasPrefix(x.line, "Leap") {
			checkFault(t, "Expires 1971 Jan 1 0:0:0\n"+first+second+x.line, 4, x.code)
		}
	}
}

// wrongLine is a line, and what is wrong with it behind first, second and expires.
type wrongLine struct {
	line string
	code api.Errno
}

// P11.1: each two lines that are wrong, in both orders: the one ahead is told, whatever its error.
func TestFirstWrongLine(t *testing.T) {
	all := []wrongLine{{"x", 2}, {"Leap", 2}, {"Expires 2018 Jun 28 0:0:0", 2}, {"Leap 1973 Jun 31 23:59:60 + S", 9}, {"Leap 1971 Dec 31 23:59:60 + S", 9}, {"Leap 1973 Jun 30 23:59:59 + S", 6}, {"Leap 1973 Jun 29 23:59:60 + S", 5}, {"Leap 1972 Jun 30 23:59:60 + S", 4}}
	for _, a := range all {
		for _, b := range all {
			checkFault(t, first+second+expires+a.line+"\n"+b.line+"\n", 4, a.code)
			checkFault(t, expires+first+"# x\n\n"+second+a.line+"\n\n"+third+b.line, 6, a.code)
		}
	}
	checkFault(t, "Expires 1972 Feb 30 0:0:0\nx\n", 1, 9)
	checkFault(t, "x\nExpires 1972 Feb 30 0:0:0\n", 1, 2)
	checkFault(t, second+first+"x\n", 2, 4)
	checkFault(t, "Expires 1972 Jun 30 23:59:60\n"+second+first, 1, 9)
}

// P11.1: a second expiry line may not be, even if it says the same, or if it is wrong; one that is no expiry line may not be anyway.
func TestExpiriesThatComeTwice(t *testing.T) {
	for _, again := range []string{expires, "expires 2018 jan 1 1:2:3\n", "Expires 2017 Jun 28 23:59:60\n", "Expires 2017 Feb 30 0:0:0\n", "Expires 0 Jan 0 0:0:0\n", "Expires 1971 Jan 1 0:0:0\n", "Expires\n", "Expires 2017 Jun 28\n"} {
		checkFault(t, expires+again, 2, 2)
		checkFault(t, expires+again+again, 2, 2)
		checkFault(t, expires+first+again+second, 3, 2)
		checkFault(t, first+expires+second+"\n"+again, 5, 2)
		checkFault(t, "\n"+first+expires+"# x\n"+strings.TrimSpace(again), 5, 2)
		// An expiry that is too early is told behind all lines alone.
		checkFault(t, "Expires 1972 Jun 30 23:59:59\n"+first+again, 3, 2)
		checkFault(t, "Expires 1971 Jun 30 23:59:59\n"+again, 2, 2)
	}
}

// P11.1: an expiry has no second 60, whatever its date; and it is told in its own place.
func TestExpiryOnTheSixtyFirstSecond(t *testing.T) {
	for _, date := range []string{"1971 Dec 31", "1972 Jun 30", "1972 Jul 1", "2017 Jun 28", "9999 Dec 31", "1 Jan 1", "1972 Feb 30"} {
		for _, line := range spaced("Expires", date, "23:59:60") {
			checkFault(t, line, 1, 9)
			checkFault(t, first+line, 2, 9)
			checkFault(t, line+"\n"+first+"x", 1, 9)
		}
	}
}

// P11.2: expiries that are too early, at their edges, and too late, ahead of the leaps, among them and behind them.
func TestEdgesOfExpiries(t *testing.T) {
	for _, x := range []struct {
		lines       string
		leaps       api.Table
		early, edge string
		p           int
	}{
		{"", api.Table{}, "1971 Dec 31 23:59:59", "1972 Jan 1 0:0:0", 63072000},
		{first, table(911), "1972 Jun 30 23:59:59", "1972 Jul 1 0:0:0", 78796800},
		{"Leap 1972 Jun 30 23:59:59 - R\n", rolled(table(-911), 0), "1972 Jun 30 23:59:59", "1972 Jul 1 0:0:0", 78796800},
		{first + second, table(911, 1095), "1972 Dec 31 23:59:59", "1973 Jan 1 0:0:0", 94694400},
		{"Leap 9999 Nov 30 23:59:60 + S\n", table(2932865), "9999 Nov 30 23:59:59", "9999 Dec 1 0:0:0", 2932866 * 86400},
	} {
		n := strings.Count(x.lines, "\n")
		for _, bad := range []string{"1 Jan 1 0:0:0", "1969 Dec 31 23:59:59", "1970 Jan 1 0:0:0", "1971 Dec 31 23:59:59", x.early, "10000 Jan 1 0:0:0", "9999 Dec 31 23:59:60", "9999 Dec 32 0:0:0"} {
			checkFault(t, "Expires "+bad+"\n"+x.lines, 1, 9)
			checkFault(t, "#\n\nEXPIRES "+bad+"\n#\n"+x.lines, 3, 9)
			checkFault(t, x.lines+"expires "+bad, n+1, 9)
			checkFault(t, x.lines+"\nExpires "+bad+" # x\n# x\n", n+2, 9)
		}
		for right, p := range map[string]int{x.edge: x.p, x.edge[:len(x.edge)-5] + "0:0:1": x.p + 1, "9999 Dec 31 23:59:58": lastSecond - 1, "9999 Dec 31 23:59:59": lastSecond} {
			checkParse(t, "Expires "+right+"\n"+x.lines, until(x.leaps, p))
			checkParse(t, x.lines+"\nExpires "+right, until(x.leaps, p))
		}
	}
}

// P11.1, P11.2: an expiry that is ahead of a leap is wrong in its own line, not in that of the leap, and but where no line is wrong otherwise.
func TestExpiryAmongLeaps(t *testing.T) {
	checkFault(t, first+"Expires 1972 Dec 31 23:59:59\n"+second, 2, 9)
	checkFault(t, first+"Expires 1973 Jan 1 0:0:0\n"+second+third, 2, 9)
	checkFault(t, "Expires 1972 Jan 1 0:0:0\n"+first, 1, 9)
	checkFault(t, "Expires 1972 Jan 1 0:0:0\n"+first+"x", 3, 2)
	checkFault(t, "Expires 1971 Jan 1 0:0:0\n"+first+first, 3, 4)
	checkFault(t, "Expires 1971 Jan 1 0:0:0\nLeap 1972 Jun 30 23:59:59 + S\n", 2, 6)
	checkParse(t, first+"Expires 1973 Jan 1 0:0:0\n"+second, until(table(911, 1095), 94694400))
}

// P11.1: as many leaps as there may be, and one more; what is told of that one ahead, and behind it.
func TestMostLeaps(t *testing.T) {
	for _, n := range []int{0, 1, 2, 199, 200} {
		x := mixed(730, n)
		checkParse(t, sourceOf(x), x)
		checkParse(t, sourceOf(x)+"Expires 9999 Dec 31 23:59:59", until(x, lastSecond))
	}
	full := sourceOf(mixed(730, 200))
	for line, e := range map[string]api.Errno{
		"Leap 1999 Dec 31 23:59:60 + S": 8, "Leap 1999 Dec 31 23:59:59 - R": 8, "Leap 1999 Dec 30 23:59:60 + S": 8, "Leap 1971 Dec 31 23:59:60 + S": 8, "Leap 1 Jan 1 23:59:60 + S": 8, "Leap 9999 Dec 31 23:59:60 + S": 8, "Leap 1972 Jun 30 23:59:60 + S": 8,
		"Leap 1999 Dec 31 23:59:59 + S": 6, "Leap 1999 Dec 30 23:59:60 - S": 6, "Leap 1999 Dec 32 23:59:60 + S": 9, "Leap 10000 Dec 31 23:59:60 + S": 9, "x": 2, "Leap": 2,
	} {
		checkFault(t, full+line, 201, e)
		checkFault(t, "\n"+full+"#\n"+line+"\nLeap 2000 Dec 31 23:59:60 + S\n", 203, e)
		checkFault(t, "Expires 1972 Jan 1 0:0:0\n"+full+line, 202, e)
	}
	checkFault(t, strings.Replace(full, "\t+\t", "\t-\t", 1)+"Leap 1999 Dec 31 23:59:60 + S", 1, 6)
	checkFault(t, "Expires 1972 Jan 1 0:0:0\n"+full, 1, 9)
}

// P11.1: lines are counted from 1 on, those that say nothing too; a source may be long, and a line as well.
func TestLongSources(t *testing.T) {
	many := strings.Repeat("\n# x\r\n \t\n#\n", 25000)
	checkParse(t, many+first+many+second+many, table(911, 1095))
	checkFault(t, many+first+many+second+many+"x", 300003, 2)
	checkFault(t, many+"Expires 1972 Jan 1 0:0:0\n"+first+many, 100001, 9)
	long := strings.Repeat("# x \t\xff", 100000)
	checkParse(t, first+"Leap 1972 Dec 31 23:59:60 + S"+long+"\n"+long, table(911, 1095))
	checkFault(t, first+strings.Repeat("Leap ", 100000), 2, 2)
	checkFault(t, first+"Leap 1972 Dec 31 23:59:60 + "+strings.Repeat("S", 100000), 2, 2)
	checkFault(t, first+"Leap 1972 Dec 31 "+strings.Repeat("0", 100000)+" + S", 2, 2)
	checkFault(t, first+"Leap 1972 "+strings.Repeat("Dec", 100000)+" 31 23:59:60 + S", 2, 2)
	checkParse(t, "Leap "+strings.Repeat("0", 100000)+"1972 Jun"+strings.Repeat(" ", 100000)+"30 23:59:60 + S", table(911))
	checkFault(t, strings.Repeat(first, 100000), 2, 4)
}

// P11.3: each beginning of each name, in any letters; those of three letters and more alone are months.
func TestMonths(t *testing.T) {
	for m, short := range monthNames {
		name := short + monthRests[m]
		if name != time.Month(m+1).String() {
			t.Fatalf("%s is no month's name", name)
		}
		for k := range len(name) + 1 {
			want := 0
			if k >= 3 {
				want = m + 1
			}
			for _, s := range cases(name[:k]) {
				checkMonth(t, s, want)
			}
		}
		for b := range 256 {
			more := string([]byte{byte(b)})
			checkMonth(t, name+more, 0)
			checkMonth(t, more+name, 0)
			checkMonth(t, short[:2]+more+short[2:]+monthRests[m], 0)
			for k := range len(name) {
				// Of May it may make Mar.
				other := name[:k] + more + name[k+1:]
				checkMonth(t, other, slices.IndexFunc(monthNames, func(n string) bool {
					return b < 128 && (strings.EqualFold(other, n) || strings.EqualFold(other, name) && n == short)
				})+1)
			}
		}
		for _, s := range cases(name) {
			checkMonth(t, s+" ", 0)
			checkMonth(t, " "+s, 0)
			checkMonth(t, s+s, 0)
			checkMonth(t, s[:3]+s[:3], 0)
			checkMonth(t, s[1:], 0)
		}
	}
}

// P11.3: each text of one byte, of two, and of three letters.
func TestShortMonths(t *testing.T) {
	checkMonth(t, "", 0)
	for a := range 256 {
		checkMonth(t, string([]byte{byte(a)}), 0)
		for b := range 256 {
			checkMonth(t, string([]byte{byte(a), byte(b)}), 0)
		}
	}
	const letters = "abcdefghijklmnopqrstuvwxyz"
	for _, a := range letters {
		for _, b := range letters {
			for _, c := range letters {
				s := string([]rune{a, b, c})
				want := slices.IndexFunc(monthNames, func(n string) bool { return strings.EqualFold(n, s) }) + 1
				for _, s := range cases(s) {
					checkMonth(t, s, want)
				}
			}
		}
	}
}

// P11.3: names that are none: of others, of other scripts, of bytes alone.
func TestWrongMonths(t *testing.T) {
	for _, s := range []string{"Juny", "Jull", "Juli", "Juni", "Janua ry", "Sept.", "sept\x00", "1", "01", "12", "Mai", "Mayo", "Mar.", "Marz", "Octo\u0431er", "\u017feptember", "Augu\u017ft", "Apr\u0130l", "APR\u0130", "Apr\u0131l", "\uff2a\uff41\uff4e", "j\u00e4n", "f\u00e9vrier", "\xff\xff\xff", "ja\xff", "January February", "Jan,", "JanFeb", "ecember", "ember", "uary", "tember", "month", "Ja", "De", "\u0130an", strings.Repeat("may", 100000)} {
		checkMonth(t, s, 0)
	}
}

// clockForms tells ways to write a number of a clock.
func clockForms(n int) []string {
	if n < 10 {
		return []string{fmt.Sprint(n), fmt.Sprintf("0%d", n)}
	}
	return []string{fmt.Sprint(n)}
}

// P11.4: all seconds of a day, each of their numbers with one digit or two.
func TestClocks(t *testing.T) {
	for sec := range 86400 {
		for _, h := range clockForms(sec / 3600) {
			for _, m := range clockForms(sec / 60 % 60) {
				for _, s := range clockForms(sec % 60) {
					checkClock(t, h+":"+m+":"+s, sec)
				}
			}
		}
	}
	for s, sec := range map[string]int{"0:0:0": 0, "00:00:00": 0, "1:2:3": 3723, "01:2:03": 3723, "9:9:9": 32949, "12:00:59": 43259, "23:59:58": 86398, "23:59:59": 86399, "23:59:60": 86400} {
		checkClock(t, s, sec)
	}
}

// P11.4: all numbers of two digits in each place: of those that are none of a clock, the second 60 is one in the last minute alone.
func TestNumbersOfClocks(t *testing.T) {
	for h := range 100 {
		for m := range 100 {
			for s := range 100 {
				clock := fmt.Sprintf("%d:%d:%02d", h, m, s)
				switch {
				case h == 23 && m == 59 && s == 60:
					checkClock(t, clock, 86400)
				case h > 23 || m > 59 || s > 59:
					checkNoClock(t, clock)
				default:
					checkClock(t, clock, h*3600+m*60+s)
				}
			}
		}
	}
}

// wrongClocks tells texts that are no clock.
func wrongClocks() []string {
	return []string{
		"", ":", "::", ":::", "0", "1", "00", "1:", "1::", "1:2", "1:2:", ":2:3", "1::3", "::3", ":1:2:3", "1:2:3:", "1:2:3:4", "1:2::3", "1:2:3:4:5", "010203", "1.2.3", "1-2-3", "1,2,3", "1:2.3", "1 2 3", "1;2;3",
		"001:2:3", "1:002:3", "1:2:003", "000:0:0", "0:000:0", "0:0:000", "023:59:60", "23:059:60", "23:59:060", "0000000000000000000001:2:3", "100:0:0", "0:100:0", "0:0:100",
		"24:0:0", "24:00:00", "24:00:60", "0:60:0", "0:0:60", "12:00:60", "22:59:60", "23:58:60", "23:59:61", "23:60:60", "23:60:0", "24:59:60", "99:99:99", "23:59:99",
		" 1:2:3", "1:2:3 ", "1: 2:3", "1 :2:3", "\t1:2:3", "1:2:3\t", "1:2:3\n", "1:2:3\r", "1:2\n:3", "\n1:2:3",
		"-1:2:3", "1:-2:3", "1:2:-3", "+1:2:3", "1:+2:3", "1:2:+3", "-0:0:0", "- 1:2:3", "0:0:-0",
		"x:2:3", "1:x:3", "1:2:x", "1x:2:3", "a:b:c", "1:2:3s", "1:2:3Z", "1:2:3.5", "0x1:2:3", "1:2:3a", "1e:2:3", "1:2:3#", "#1:2:3",
		"\xff:2:3", "1:\xff:3", "1:2:\xff", "1:2:3\x00", "\x001:2:3", "1\x00:2:3", "\u0661:2:3", "1:\u0662:3", "1:2:\uff13", "1\uff1a2\uff1a3", "\u00e4:0:0", "\u06f1:2:3",
		greatest + ":0:0", "0:" + beyond + ":0", "0:0:18446744073709551616", strings.Repeat("0", 100) + ":0:0", strings.Repeat("1:", 100000), strings.Repeat("0", 100000),
	}
}

// P11.4: texts that are no clock: of one part, two and four, of none and of three digits, of other bytes, with blanks and signs.
func TestWrongClocks(t *testing.T) {
	for _, s := range wrongClocks() {
		checkNoClock(t, s)
	}
}

// P11.4: each byte at each place of clocks, instead of the one that stands there and ahead of it, against a pattern.
func TestBytesOfClocks(t *testing.T) {
	for _, clock := range []string{"1:2:3", "01:02:03", "23:59:60", "23:59:59", "9:10:11"} {
		for k := range len(clock) + 1 {
			for b := range 256 {
				c := string([]byte{byte(b)})
				all := []string{clock[:k] + c + clock[k:]}
				if k < len(clock) {
					all = append(all, clock[:k]+c+clock[k+1:], clock[:k]+clock[k+1:])
				}
				for _, s := range all {
					if sec, ok := slowClock(s); ok {
						checkClock(t, s, sec)
					} else {
						checkNoClock(t, s)
					}
				}
			}
		}
	}
}

// P11.5: written out: tables without leaps, with leaps of both Steps and of both kinds, with expiries and without.
func TestTextByHand(t *testing.T) {
	checkText(t, api.Table{}, "")
	checkText(t, api.Table{Leaps: []api.Leap{}}, "")
	checkText(t, table(911), "Leap\t1972\tJun\t30\t23:59:60\t+\tS\n")
	checkText(t, table(-911), "Leap\t1972\tJun\t30\t23:59:59\t-\tS\n")
	checkText(t, rolled(table(911), 0), "Leap\t1972\tJun\t30\t23:59:60\t+\tR\n")
	checkText(t, rolled(table(-911), 0), "Leap\t1972\tJun\t30\t23:59:59\t-\tR\n")
	checkText(t, rolled(table(911, -1095, 1460), 1), "Leap\t1972\tJun\t30\t23:59:60\t+\tS\nLeap\t1972\tDec\t31\t23:59:59\t-\tR\nLeap\t1973\tDec\t31\t23:59:60\t+\tS\n")
	checkText(t, table(760, 2932865), "Leap\t1972\tJan\t31\t23:59:60\t+\tS\nLeap\t9999\tNov\t30\t23:59:60\t+\tS\n")
	checkText(t, until(api.Table{}, 63072000), "Expires\t1972\tJan\t1\t00:00:00\n")
	checkText(t, until(api.Table{}, lastSecond), "Expires\t9999\tDec\t31\t23:59:59\n")
	checkText(t, until(table(911), 78796800), "Leap\t1972\tJun\t30\t23:59:60\t+\tS\nExpires\t1972\tJul\t1\t00:00:00\n")
	checkText(t, until(rolled(table(911, -1095), 1), 94694405), "Leap\t1972\tJun\t30\t23:59:60\t+\tS\nLeap\t1972\tDec\t31\t23:59:59\t-\tR\nExpires\t1973\tJan\t1\t00:00:05\n")
	s, _ := Text(until(table(published...), expired))
	if !strings.HasSuffix(s, "\nLeap\t2016\tDec\t31\t23:59:60\t+\tS\nExpires\t2017\tJun\t28\t00:00:00\n") || strings.Count(s, "\n") != 28 {
		t.Errorf("%q", s)
	}
}

// P11.5: each month's name, and each clock of an expiry.
func TestMonthsAndClocksOfText(t *testing.T) {
	for m, d := range monthEnds(730+366, 12) {
		last := []int{31, 28, 31, 30, 31, 30, 31, 31, 30, 31, 30, 31}[m]
		checkText(t, table(d), fmt.Sprintf("Leap\t1973\t%s\t%d\t23:59:60\t+\tS\n", monthNames[m], last))
		checkText(t, until(api.Table{}, d*86400), fmt.Sprintf("Expires\t1973\t%s\t%d\t00:00:00\n", monthNames[m], last))
	}
	for sec := range 86400 {
		checkText(t, until(api.Table{}, expired+sec), fmt.Sprintf("Expires\t2017\tJun\t28\t%02d:%02d:%02d\n", sec/3600, sec/60%60, sec%60))
	}
	for d := 730; d < 20000; d++ {
		checkText(t, until(api.Table{}, d*86400+d%86400), "Expires\t"+time.Unix(int64(d*86400+d%86400), 0).UTC().Format("2006\tJan\t2\t15:04:05")+"\n")
	}
}

// P11.5: tables that are not right have no text: of each error, and of a wrong expiry.
func TestTextOfWrongTables(t *testing.T) {
	for _, x := range []api.Table{
		table(912), table(729), table(699), table(730), table(0), table(2932896), table(2932895), table(api.MaxInt), table(911, 911), table(1095, 911), table(911, 1095, 1000), {Leaps: []api.Leap{{}}},
		{Leaps: []api.Leap{{Day: 911}}}, {Leaps: []api.Leap{{Day: 911, Step: 2}}}, {Leaps: []api.Leap{{Day: 911, Step: -2, Roll: true}}}, {Leaps: []api.Leap{{Day: 911, Step: api.MaxInt}}}, {Leaps: []api.Leap{{Day: 911, Step: 1}, {Day: 1095, Step: api.MinInt}}}, {Leaps: []api.Leap{{Day: api.MinInt, Step: 1}}},
		mixed(730, 201), {Expires: 1}, {Expires: -1}, {Expires: expired}, {Expires: 78796800, Leaps: table(911).Leaps}, {Has: true}, until(api.Table{}, 63071999), until(table(911), 78796799), until(table(911), lastSecond+1), until(api.Table{}, api.MaxInt), until(api.Table{}, api.MinInt), until(api.Table{}, -86400),
	} {
		checkNoText(t, x)
	}
	checkText(t, mixed(730, 200), sourceOf(mixed(730, 200)))
}

// P11.6: what was written is read as it was, and is told again; so with blanks, letters and ends of lines of other kinds.
func TestTextsAreReadAsTheyWere(t *testing.T) {
	var all []api.Table
	for n := range 201 {
		if n < 15 || n%20 == 7 || n > 198 {
			all = append(all, mixed(730+29*n, n), table(monthEnds(730, n)...))
		}
	}
	all = append(all, table(published...), rolled(table(published...), 0, 5, 26), table(760), table(-760), table(2932865), rolled(table(760, -2932865), 0, 1))
	for k, x := range all {
		behind := 63072000
		if n := len(x.Leaps); n > 0 {
			behind = (x.Leaps[n-1].Day + 1) * 86400
		}
		for _, x := range []api.Table{x, until(x, behind), until(x, behind+4711*k+1), until(x, lastSecond)} {
			s, ok := Text(x)
			if !ok {
				t.Fatalf("%s has no text", brief(x))
			}
			checkParse(t, s, x)
			checkParse(t, strings.ReplaceAll(s, "\n", "\r\n"), x)
			checkParse(t, "\n# x\n"+strings.ReplaceAll(s, "\t", " \t "), x)
			checkParse(t, strings.TrimSuffix(s, "\n"), x)
			checkParse(t, strings.ToUpper(s), x)
			checkParse(t, strings.ToLower(s), x)
			y, _ := Parse(s)
			checkText(t, y, s)
		}
	}
}

// W6: an answer is new memory each time, with its spare room.
func TestAnswersShareNothing(t *testing.T) {
	for _, n := range []int{0, 1, 2, 3, 5, 27} {
		s := sourceOf(table(published[:n]...)) + expires
		x, _ := Parse(s)
		whole := x.Leaps[:cap(x.Leaps)]
		for k := range whole {
			whole[k] = api.Leap{Day: 5, Step: 7, Roll: true}
		}
		checkParse(t, s, until(table(published[:n]...), expired))
	}
}

// W6: a table that is handed in is neither changed, nor its spare room, nor kept.
func TestTextChangesNothing(t *testing.T) {
	for _, n := range []int{0, 1, 2, 27} {
		whole := append(table(published[:n]...).Leaps, api.Leap{Day: 4711, Step: 5, Roll: true}, api.Leap{Day: -1})
		had := slices.Clone(whole)
		x := until(api.Table{Leaps: whole[:n]}, lastSecond)
		s, ok := Text(x)
		if !ok || !slices.Equal(whole, had) || !same(x, until(table(published[:n]...), lastSecond)) {
			t.Errorf("%d leaps: %v, were %v", n, whole, had)
		}
		was := strings.Clone(s)
		clear(whole)
		if s != was {
			t.Errorf("%d leaps: the text changed with them", n)
		}
	}
}

// beginning tells the pattern of the beginnings of a name that have that many letters at least, in any letters.
func beginning(name string, least int) string {
	if name == "" {
		return ""
	}
	letter := "[" + strings.ToLower(name[:1]) + strings.ToUpper(name[:1]) + "]"
	if least > 0 {
		return letter + beginning(name[1:], least-1)
	}
	return "(?:" + letter + beginning(name[1:], 0) + ")?"
}

// monthPattern tells the pattern of all months, each in a group of its own.
func monthPattern() string {
	var all []string
	for m, short := range monthNames {
		all = append(all, "("+beginning(short+monthRests[m], 3)+")")
	}
	return "(?:" + strings.Join(all, "|") + ")"
}

// The lines of a source, written as patterns.
const clockForm = `([0-9]{1,2}):([0-9]{1,2}):([0-9]{1,2})`

var (
	momentForm = `[ \t]+([0-9]+)[ \t]+` + monthPattern() + `[ \t]+([0-9]+)[ \t]+` + clockForm
	clockLine  = regexp.MustCompile(`^` + clockForm + `$`)
	emptyLine  = regexp.MustCompile(`^[ \t]*$`)
	leapLine   = regexp.MustCompile(`^[ \t]*` + beginning("leap", 4) + momentForm + `[ \t]+([-+])[ \t]+(?:(` + beginning("rolling", 1) + `)|` + beginning("stationary", 1) + `)[ \t]*$`)
	expiryLine = regexp.MustCompile(`^[ \t]*` + beginning("expires", 7) + momentForm + `[ \t]*$`)
)

// slowNumber tells the number of digits, and false where it is too great.
func slowNumber(s string) (int, bool) {
	n, _ := new(big.Int).SetString(s, 10)
	return int(n.Int64()), n.IsInt64()
}

// slowClock tells the second of a clock by its pattern.
func slowClock(s string) (int, bool) {
	found := clockLine.FindStringSubmatch(s)
	if found == nil {
		return 0, false
	}
	return slowSecond(found[1:])
}

// slowSecond tells the second of an hour, a minute and a second.
func slowSecond(parts []string) (int, bool) {
	h, _ := slowNumber(parts[0])
	m, _ := slowNumber(parts[1])
	s, _ := slowNumber(parts[2])
	if h == 23 && m == 59 && s == 60 {
		return 86400, true
	}
	return h*3600 + m*60 + s, h < 24 && m < 60 && s < 60
}

// slowMoment is what the words of a date and a clock say: whether they are some, whether there is such a day, it, and the second.
type slowMoment struct {
	formed, dated bool
	day, sec      int
}

// readSlowly tells what the groups of a pattern of a moment say.
func readSlowly(found []string) slowMoment {
	y, okYear := slowNumber(found[1])
	month := slices.IndexFunc(found[2:14], func(s string) bool { return s != "" }) + 1
	d, okDay := slowNumber(found[14])
	sec, okClock := slowSecond(found[15:18])
	x := slowMoment{formed: okYear && okDay && okClock, sec: sec}
	if y < 1 || y > 9999 || d < 1 || d > 31 {
		return x
	}
	date := time.Date(y, time.Month(month), d, 0, 0, 0, 0, time.UTC)
	x.dated = date.Day() == d
	x.day = int(date.Unix() / 86400)
	// Rounded down, not to 0.
	if date.Unix()%86400 < 0 {
		x.day--
	}
	return x
}

// slowLeap puts the leap of a leap line's groups behind the others, and tells what is wrong with it.
func slowLeap(x *api.Table, found []string) api.Errno {
	at := readSlowly(found)
	step := map[string]int{"+": 1, "-": -1}[found[18]]
	outOfRange := at.day < 730 || at.day >= 2932896
	e := firstOf(wrong{!at.formed, 2}, wrong{!at.dated, 9}, wrong{step == 1 && at.sec != 86400 || step == -1 && at.sec != 86399, 6}, wrong{len(x.Leaps) == 200, 8}, wrong{outOfRange, 9}, wrong{!isEnd(at.day), 5}, wrong{len(x.Leaps) > 0 && at.day <= x.Leaps[max(0, len(x.Leaps)-1)].Day, 4})
	x.Leaps = append(x.Leaps, api.Leap{Day: at.day, Step: step, Roll: found[19] != ""})
	return e
}

// slowParse is another way to Parse: by patterns, and by the library's calendar.
func slowParse(s string) (api.Table, api.Fault) {
	var x api.Table
	expiry, p := 0, 0
	for k, row := range strings.Split(s, "\n") {
		row = strings.TrimSuffix(row, "\r")
		if at := strings.IndexByte(row, '#'); at >= 0 {
			row = row[:at]
		}
		e := api.Errno(2)
		if emptyLine.MatchString(row) {
			e = 0
		} else if found := leapLine.FindStringSubmatch(row); found != nil {
			e = slowLeap(&x, found)
		} else if found := expiryLine.FindStringSubmatch(row); found != nil {
			at := readSlowly(found)
			e = firstOf(wrong{!at.formed || expiry > 0, 2}, wrong{!at.dated || at.sec == 86400, 9})
			expiry, p = k+1, at.day*86400+at.sec
		}
		if e != 0 {
			return api.Table{}, api.Fault{Line: k + 1, Code: e}
		}
	}
	if expiry > 0 {
		least := 63072000
		if n := len(x.Leaps); n > 0 {
			least = (x.Leaps[n-1].Day + 1) * 86400
		}
		x = until(x, p)
		if p < least || p > lastSecond {
			return api.Table{}, api.Fault{Line: expiry, Code: 9}
		}
	}
	return x, api.Fault{}
}

// checkAny holds Parse and Text of s against the slow ways.
func checkAny(t *testing.T, s string) {
	t.Helper()
	x, f := slowParse(s)
	if f.Code != 0 {
		checkFault(t, s, f.Line, f.Code)
		return
	}
	checkParse(t, s, x)
	if !leap.Right(x) {
		t.Errorf("Parse(%.300q): %s is not right", s, brief(x))
	}
	if again, ok := Text(x); !ok {
		t.Errorf("%s has no text", brief(x))
	} else {
		checkParse(t, again, x)
	}
}

// P11.1: each byte at each place of lines that are right: instead of the one that stands there, ahead of it, and none.
func TestBytesOfLines(t *testing.T) {
	for _, line := range []string{"Leap 1972 Jun 30 23:59:60 + S", "leap\t1972\tDecember\t31\t23:59:59\t-\trolling", "Expires 1973 Jan 1 0:0:5", " EXPIRES\t2017 Sept  28\t01:02:03\t"} {
		for k := range len(line) + 1 {
			for b := range 256 {
				c := string([]byte{byte(b)})
				checkAny(t, line[:k]+c+line[k:])
				checkAny(t, second+line[:k]+c+line[k:]+"\n"+expires)
				if k < len(line) {
					checkAny(t, line[:k]+c+line[k+1:])
					checkAny(t, expires+line[:k]+c+line[k+1:]+"\r\n")
					checkAny(t, line[:k]+line[k+1:]+c)
				}
			}
		}
	}
}

// anySource tells a source that is often right, and often nearly so.
func anySource(r *rand.Rand) string {
	pick := func(all ...string) string { return all[r.Intn(len(all))] }
	blank := func() string { return pick(" ", "\t", "  ", " \t") }
	rows := strings.SplitAfter(sourceOf(mixed(730+r.Intn(800), r.Intn(6))), "\n")
	rows = rows[:len(rows)-1]
	for k, row := range rows {
		words := strings.Fields(row)
		words[0] = pick("Leap", "leap", "LEAP")
		words[len(words)-1] = pick(words[len(words)-1], "S", "r", "Stat", "ROLLING")
		rows[k] = pick("", " ") + strings.Join(words, blank()) + pick("", "", " ", "#", " # x") + pick("\n", "\r\n")
	}
	put := func(row string) { rows = slices.Insert(rows, r.Intn(len(rows)+1), row+"\n") }
	if r.Intn(2) == 0 {
		p := 63072000 + r.Intn(60)*2160000 + r.Intn(5)
		put(pick("Expires", "expires") + time.Unix(int64(p), 0).UTC().Format(pick(" 2006 Jan 2 15:04:05", "\t2006\tJanuary\t02\t15:4:5")))
	}
	for range r.Intn(3) {
		odd := []string{"", " \t", "# x", " # Leap", "#", "\t#", "x", "Leap", "Expires 2017 Jun 28 00:00:00", "Leap 1972 Jun 30 23:59:60 + S", "Leap 1974 Jun 30 23:59:59 + S", "Leap 1974 Jun 29 23:59:60 + S", "Leap 1974 Jun 31 23:59:60 - S", "Leap 1976 Feb 29 23:59:60 + R\r", "Expires 1973 Feb 29 0:0:0", "Expires 1973 Feb 28 23:59:60"}
		put(odd[r.Intn(6+r.Intn(len(odd)-5))])
	}
	if len(rows) > 0 && r.Intn(4) == 0 {
		a, b := r.Intn(len(rows)), r.Intn(len(rows))
		rows[a], rows[b] = rows[b], rows[a]
	}
	return strings.Join(rows, "")
}

// broken tells s with another byte, one more, one less, or as it is.
func broken(r *rand.Rand, s string) string {
	const bytes = "0123456789 \t\r\n#:+-SRleapJunDecxires\xff"
	if s == "" {
		return s
	}
	k, c := r.Intn(len(s)), string([]byte{bytes[r.Intn(len(bytes))]})
	switch r.Intn(6) {
	case 0:
		return s[:k] + c + s[k+1:]
	case 1:
		return s[:k] + c + s[k:]
	case 2:
		return s[:k] + s[k+1:]
	default:
		return s
	}
}

// P11.1 to P11.6: many sources, against the slow ways.
func TestAnySources(t *testing.T) {
	r := rand.New(rand.NewSource(11))
	told := map[api.Errno]int{}
	for range 30000 {
		s := broken(r, anySource(r))
		checkAny(t, s)
		_, f := Parse(s)
		told[f.Code]++
	}
	for _, e := range []api.Errno{0, 2, 4, 5, 6, 9} {
		if told[e] < 100 {
			t.Errorf("the error %d was told %d times alone", e, told[e])
		}
	}
}

// P11.1: all texts of up to four pieces, of those that sources are made of.
func TestShortTexts(t *testing.T) {
	pieces := []string{"\n", "\r", " ", "\t", "#", "Leap", "Expires", " 1972 Jun 30", " 23:59:60", " 23:59:59", " + S", " - r", "Leap 1972 Dec 31 23:59:60 + S", "Expires 1973 Jan 1 0:0:0"}
	var walk func(s string, n int)
	walk = func(s string, n int) {
		checkAny(t, s)
		if n == 0 {
			return
		}
		for _, p := range pieces {
			walk(s+p, n-1)
		}
	}
	walk("", 4)
	for _, p := range pieces {
		walk("Leap 1972 Jun 30"+p, 3)
	}
}

// W2: the same is answered each time, also by calls at the same time.
func TestCallsAtTheSameTime(t *testing.T) {
	want := until(rolled(table(published...), 3), expired)
	var all sync.WaitGroup
	for range 16 {
		all.Go(func() {
			s, ok := Text(want)
			for range 50 {
				x, f := Parse(s)
				again, _ := Text(x)
				if !ok || f.Code != 0 || !same(x, want) || again != s {
					t.Errorf("%s, %v, at the same time as others", brief(x), f)
				}
			}
		})
	}
	all.Wait()
}

// W1, P11.1 to P11.6: whatever text.
func FuzzZic(f *testing.F) {
	f.Add("")
	f.Add(first + second + third + expires)
	f.Add(sourceOf(mixed(730, 20)))
	for _, line := range slices.Concat(remarks(), wrongClocks()[:60]) {
		f.Add(first + line + "\r\n" + second)
		f.Add("Leap 1972 Jun 30 " + line + " - roll\nEXPIRES 1973 Febr 029 " + line)
	}
	f.Fuzz(func(t *testing.T, s string) {
		checkAny(t, s)
		if sec, ok := slowClock(s); ok {
			checkClock(t, s, sec)
		} else {
			checkNoClock(t, s)
		}
		m, ok := Month(s)
		if ok != (m >= 1 && m <= 12) || ok && (len(s) < 3 || !strings.EqualFold(s, time.Month(m).String()[:len(s)])) {
			t.Errorf("Month(%q): %d, %t", s, m, ok)
		}
	})
}
