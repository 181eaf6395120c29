package rule

import (
	"fmt"
	"math/rand"
	"regexp"
	"strconv"
	"strings"
	"sync"
	"testing"
	"time"
	"unsafe"

	"epact/api"
)

const (
	most  = api.MaxInt
	least = api.MinInt
)

// days, julian and weeks tell rules whose Sec is usual.
func days(a int) api.Rule   { return api.Rule{Kind: api.RuleDay, A: a, Sec: 7200} }
func julian(a int) api.Rule { return api.Rule{Kind: api.RuleJulian, A: a, Sec: 7200} }
func weeks(a, b, c int) api.Rule {
	return api.Rule{Kind: api.RuleWeek, A: a, B: b, C: c, Sec: 7200}
}

// at tells r with another Sec.
func at(r api.Rule, sec int) api.Rule {
	r.Sec = sec
	return r
}

// edgeSeconds are those of rules where something turns; others are out of what rules have.
func edgeSeconds() []int {
	l := []int{}
	for _, n := range []int{0, 1, 9, 10, 59, 60, 61, 599, 600, 3599, 3600, 3601, 3659, 3660, 3661, 5400, 7199, 7200, 7201, 7260, 35999, 36000, 86399, 86400, 89999, 359999, 360000, 604740, 604798, 604799} {
		l = append(l, n, -n)
	}
	return l
}

func wrongSeconds() []int {
	return []int{604800, 604801, -604800, -604801, 608400, 691200, -691200, 1 << 20, 1 << 32, 1<<32 + 7200, -1<<32 + 7200, least, least + 1, least + 7200, -most, most, most - 1}
}

// someRules are rules that are right, of each kind, at all edges and between.
func someRules() []api.Rule {
	return []api.Rule{
		weeks(1, 1, 0), weeks(1, 1, 6), weeks(1, 5, 0), weeks(2, 4, 4), weeks(2, 5, 4), weeks(3, 2, 0), weeks(10, 5, 3), weeks(11, 1, 0), weeks(12, 1, 1), weeks(12, 5, 6),
		julian(1), julian(2), julian(9), julian(10), julian(58), julian(59), julian(60), julian(61), julian(99), julian(100), julian(364), julian(365),
		days(0), days(1), days(9), days(10), days(58), days(59), days(60), days(61), days(99), days(100), days(364), days(365),
	}
}

// wrongRules are rules that are not right, each of them in one thing.
func wrongRules() []api.Rule {
	l := []api.Rule{{}, weeks(0, 1, 0), weeks(13, 1, 0), weeks(1, 0, 0), weeks(1, 6, 0), weeks(1, 1, -1), weeks(1, 1, 7), julian(0), julian(366), days(-1), days(366)}
	for _, n := range []int{-1, 14, 15, 100, 1<<8 + 1, 1<<32 + 1, -1<<32 + 1, least, least + 1, least + 3, most, most - 1} {
		l = append(l, weeks(n, 1, 0), weeks(1, n, 0), weeks(1, 1, n))
	}
	for _, n := range []int{367, 1000, 1<<8 + 365, -365, 1<<32 + 1, -1<<32 + 1, least, least + 1, most, most - 1} {
		l = append(l, julian(n), days(n))
	}
	for _, n := range []int{-1, 1, 2, 5, 6, 1 << 32, least, most} {
		for _, a := range []int{1, 60, 365} {
			l = append(l, api.Rule{Kind: api.RuleJulian, A: a, B: n}, api.Rule{Kind: api.RuleJulian, A: a, C: n}, api.Rule{Kind: api.RuleJulian, A: a, B: n, C: n})
			l = append(l, api.Rule{Kind: api.RuleDay, A: a, B: n}, api.Rule{Kind: api.RuleDay, A: a, C: n}, api.Rule{Kind: api.RuleDay, A: a, B: n, C: n})
		}
	}
	for _, kind := range []int{-1, 3, 4, -2, 1 << 8, 1<<8 + 1, 1 << 32, 1<<32 + 1, 1<<32 + 2, -1 << 32, least, least + 1, most, most - 1} {
		l = append(l, api.Rule{Kind: kind}, api.Rule{Kind: kind, A: 1}, api.Rule{Kind: kind, A: 1, B: 1, Sec: 7200})
	}
	for _, r := range someRules() {
		for _, sec := range wrongSeconds() {
			l = append(l, at(r, sec))
		}
	}
	return l
}

// slowRight is another way to tell whether a rule is right: by a table of what each kind may have.
func slowRight(r api.Rule) bool {
	least, has := map[int][3]int{0: {1, 1, 0}, 1: {1, 0, 0}, 2: {0, 0, 0}}[r.Kind]
	most := map[int][3]int{0: {12, 5, 6}, 1: {365, 0, 0}, 2: {365, 0, 0}}[r.Kind]
	for k, n := range []int{r.A, r.B, r.C} {
		has = has && least[k] <= n && n <= most[k]
	}
	return has && -604800 < r.Sec && r.Sec < 604800
}

// slowClock is another way to the clock of a second of a rule: all of it, less what is 0 at its end.
func slowClock(sec int) string {
	sign := ""
	if sec < 0 {
		sign, sec = "-", -sec
	}
	s := fmt.Sprintf("%s%d:%02d:%02d", sign, sec/3600, sec/60%60, sec%60)
	return strings.TrimSuffix(strings.TrimSuffix(s, ":00"), ":00")
}

// wholeTime is another way to tell whether a text is a time, by a pattern.
var wholeTime = regexp.MustCompile(`\A([+-]?)([0-9]{1,2}|0[0-9][0-9]|1[0-5][0-9]|16[0-7])(?::([0-5][0-9])(?::([0-5][0-9]))?)?\z`)

// slowTime is another way to the longest time: each beginning of the text is asked whether it is one, the longest ones first.
func slowTime(s string) (int, string, bool) {
	for k := min(len(s), 10); k > 0; k-- {
		m := wholeTime.FindStringSubmatch(s[:k])
		if m == nil {
			continue
		}
		n := 0
		for _, part := range m[2:] {
			x, _ := strconv.Atoi("0" + part)
			n = n*60 + x
		}
		if m[1] == "-" {
			n = -n
		}
		return n, s[k:], true
	}
	return 0, s, false
}

// begun is another way to tell how a rule begins, by a pattern: behind it stands no further digit.
var begun = regexp.MustCompile(`\A(?:M([0-9]{1,2})\.([0-9])\.([0-9])|J([0-9]{1,3})|([0-9]{1,3}))(?:[^0-9]|\z)`)

// slowParse is another way to the rule that a text begins with.
func slowParse(s string) (api.Rule, string, bool) {
	m := begun.FindStringSubmatch(s)
	if m == nil {
		return api.Rule{}, s, false
	}
	var n [6]int
	end := 0
	for k := 1; k < 6; k++ {
		n[k], _ = strconv.Atoi("0" + m[k])
		if m[k] != "" {
			end = begun.FindStringSubmatchIndex(s)[2*k+1]
		}
	}
	r := weeks(n[1], n[2], n[3])
	switch {
	case m[4] != "":
		r = julian(n[4])
	case m[5] != "":
		r = days(n[5])
	}
	rest, ok := s[end:], true
	if strings.HasPrefix(rest, "/") {
		r.Sec, rest, ok = slowTime(rest[1:])
	}
	if !ok || !slowRight(r) {
		return api.Rule{}, s, false
	}
	return r, rest, true
}

// slowText is another way to the text of a rule that is right.
func slowText(r api.Rule) string {
	s := [3]string{fmt.Sprintf("M%d.%d.%d", r.A, r.B, r.C), fmt.Sprintf("J%d", r.A), fmt.Sprint(r.A)}[r.Kind]
	if r.Sec == 7200 {
		return s
	}
	return s + "/" + slowClock(r.Sec)
}

func checkRight(t *testing.T, r api.Rule, want bool) {
	t.Helper()
	if got := Right(r); got != want {
		t.Errorf("Right(%+v): %t; want %t", r, got, want)
	}
}

func checkClock(t *testing.T, sec int, want string, ok bool) {
	t.Helper()
	if s, is := Clock(sec); s != want || is != ok {
		t.Errorf("Clock(%d): %q, %t; want %q, %t", sec, s, is, want, ok)
	}
}

func checkTime(t *testing.T, s string, want int, rest string, ok bool) {
	t.Helper()
	if n, left, is := Time(s); n != want || left != rest || is != ok {
		t.Errorf("Time(%.100q): %d, %.100q, %t; want %d, %.100q, %t", s, n, left, is, want, rest, ok)
	}
}

func checkText(t *testing.T, r api.Rule, want string, ok bool) {
	t.Helper()
	if s, is := Text(r); s != want || is != ok {
		t.Errorf("Text(%+v): %q, %t; want %q, %t", r, s, is, want, ok)
	}
}

func checkParse(t *testing.T, s string, want api.Rule, rest string, ok bool) {
	t.Helper()
	if r, left, is := Parse(s); r != want || left != rest || is != ok {
		t.Errorf("Parse(%.100q): %+v, %.100q, %t; want %+v, %.100q, %t", s, r, left, is, want, rest, ok)
	}
}

func checkNoTime(t *testing.T, s string) {
	t.Helper()
	checkTime(t, s, 0, s, false)
}

func checkNoRule(t *testing.T, s string) {
	t.Helper()
	checkParse(t, s, api.Rule{}, s, false)
}

func checkDay(t *testing.T, r api.Rule, y, want int, ok bool) {
	t.Helper()
	if n, is := Day(r, y); n != want || is != ok {
		t.Errorf("Day(%+v, %d): %d, %t; want %d, %t", r, y, n, is, want, ok)
	}
	sec := 0
	if ok {
		sec = want*86400 + r.Sec
	}
	if n, is := At(r, y); n != sec || is != ok {
		t.Errorf("At(%+v, %d): %d, %t; want %d, %t", r, y, n, is, sec, ok)
	}
}

// checkWrong asks all of a rule that is not right.
func checkWrong(t *testing.T, r api.Rule) {
	t.Helper()
	checkRight(t, r, false)
	checkText(t, r, "", false)
	for _, y := range []int{1, 2023, 2024, 9999, 0, 10000} {
		checkDay(t, r, y, 0, false)
	}
}

// P17.3, P17.4, P17.5: the chapter's example.
func TestExample(t *testing.T) {
	r := api.Rule{Kind: api.RuleWeek, A: 3, B: 2, C: 0, Sec: 7200}
	checkParse(t, "M3.2.0", r, "", true)
	checkText(t, r, "M3.2.0", true)
	checkDay(t, r, 2024, 19792, true) // 54 years, 13 of them leap years, and 31 and 29 and 9 days
	if n, ok := At(r, 2024); n != 1710036000 || !ok {
		t.Errorf("At: %d, %t; want 1710036000, true", n, ok)
	}
}

// P17.1: rules at the edges of each number, and one beyond.
func TestRightAtEdges(t *testing.T) {
	for _, x := range []struct {
		kind, a int
		want    bool
	}{
		{0, 0, false}, {0, 1, true}, {0, 12, true}, {0, 13, false}, {0, -1, false}, {0, least, false}, {0, most, false},
		{1, -1, false}, {1, 0, false}, {1, 1, true}, {1, 59, true}, {1, 60, true}, {1, 365, true}, {1, 366, false}, {1, least, false}, {1, most, false},
		{2, -1, false}, {2, 0, true}, {2, 1, true}, {2, 365, true}, {2, 366, false}, {2, least, false}, {2, most, false},
		{-1, 1, false}, {3, 1, false}, {-1, 0, false}, {3, 0, false}, {4, 1, false}, {least, 1, false}, {most, 1, false}, {least, 0, false}, {most, 0, false},
	} {
		r := api.Rule{Kind: x.kind, A: x.a}
		if x.kind == api.RuleWeek {
			r.B = 1
		}
		for _, sec := range edgeSeconds() {
			checkRight(t, at(r, sec), x.want)
		}
		for _, sec := range wrongSeconds() {
			checkRight(t, at(r, sec), false)
		}
	}
	for n, want := range map[int]bool{-1: false, 0: false, 1: true, 2: true, 3: true, 4: true, 5: true, 6: false, 7: false, least: false, most: false} {
		checkRight(t, weeks(1, n, 0), want)
		checkRight(t, weeks(12, n, 6), want)
	}
	for n, want := range map[int]bool{-1: false, 0: true, 1: true, 2: true, 3: true, 4: true, 5: true, 6: true, 7: false, 8: false, least: false, most: false} {
		checkRight(t, weeks(1, 1, n), want)
		checkRight(t, weeks(12, 5, n), want)
	}
}

// P17.1: each number of each kind, near its edges and far away, beside right ones of the others and beside wrong ones.
func TestRightOfAnyNumbers(t *testing.T) {
	numbers := []int{least, least + 1, -1 << 32, -1, 0, 1, 2, 4, 5, 6, 7, 12, 13, 364, 365, 366, 1 << 32, 1<<32 + 1, most - 1, most}
	rights := 0
	for _, kind := range []int{-1, 0, 1, 2, 3, least, most} {
		for _, a := range numbers {
			for _, b := range numbers {
				for _, c := range numbers {
					for _, sec := range []int{-604800, -604799, 0, 7200, 604799, 604800, least, most} {
						r := api.Rule{Kind: kind, A: a, B: b, C: c, Sec: sec}
						checkRight(t, r, slowRight(r))
						if slowRight(r) {
							rights++
						}
					}
				}
			}
		}
	}
	// Of the numbers seven may be A of a week, four B and six C, ten the day of RuleJulian, eleven that of RuleDay; each with four seconds.
	if want := 4 * (7*4*6 + 10 + 11); rights != want {
		t.Errorf("%d are right; want %d", rights, want)
	}
}

// P17.1, P17.3, P17.5: of rules that are not right there is neither a text nor a day.
func TestWrongRules(t *testing.T) {
	for _, r := range wrongRules() {
		checkWrong(t, r)
	}
}

// P17.1: clocks written out, of both signs.
func TestClockByHand(t *testing.T) {
	for sec, want := range map[int]string{
		1: "0:00:01", 9: "0:00:09", 10: "0:00:10", 59: "0:00:59", 60: "0:01", 61: "0:01:01", 119: "0:01:59", 600: "0:10", 601: "0:10:01", 3540: "0:59", 3599: "0:59:59",
		3600: "1", 3601: "1:00:01", 3610: "1:00:10", 3659: "1:00:59", 3660: "1:01", 3661: "1:01:01", 5400: "1:30", 7199: "1:59:59", 7200: "2", 7201: "2:00:01", 7260: "2:01",
		32400: "9", 35999: "9:59:59", 36000: "10", 36001: "10:00:01", 86399: "23:59:59", 86400: "24", 86401: "24:00:01", 89999: "24:59:59", 356400: "99", 359999: "99:59:59", 360000: "100", 360060: "100:01",
		601200: "167", 604740: "167:59", 604798: "167:59:58", 604799: "167:59:59",
	} {
		checkClock(t, sec, want, true)
		checkClock(t, -sec, "-"+want, true)
	}
	checkClock(t, 0, "0", true)
}

// P17.1: seconds that rules don't have have an empty clock.
func TestClockOfOthers(t *testing.T) {
	for _, sec := range wrongSeconds() {
		checkClock(t, sec, "", false)
	}
	for n := range 90000 {
		checkClock(t, 604800+n, "", false)
		checkClock(t, -604800-n, "", false)
	}
}

// P17.1, P17.2, P17.7: each second's clock, and the time that it is; a further sign behind it is left.
func TestEachSecond(t *testing.T) {
	for sec := -604799; sec <= 604799; sec++ {
		want := slowClock(sec)
		s, ok := Clock(sec)
		if s != want || !ok {
			t.Fatalf("Clock(%d): %q, %t; want %q, true", sec, s, ok, want)
		}
		if n, rest, ok := Time(s); n != sec || rest != "" || !ok {
			t.Fatalf("Time(%q): %d, %q, %t; want %d, nothing, true", s, n, rest, ok, sec)
		}
		if n, rest, ok := Time(s + ",M"); n != sec || rest != ",M" || !ok {
			t.Fatalf("Time(%q): %d, %q, %t; want %d, a point and M, true", s+",M", n, rest, ok, sec)
		}
	}
}

// P17.2: times written out, with what is left.
func TestTimeByHand(t *testing.T) {
	for _, x := range []struct {
		s    string
		want int
		rest string
	}{
		{"0", 0, ""}, {"1", 3600, ""}, {"9", 32400, ""}, {"00", 0, ""}, {"01", 3600, ""}, {"10", 36000, ""}, {"24", 86400, ""}, {"99", 356400, ""}, {"000", 0, ""}, {"001", 3600, ""}, {"024", 86400, ""}, {"099", 356400, ""}, {"100", 360000, ""}, {"159", 572400, ""}, {"160", 576000, ""}, {"166", 597600, ""}, {"167", 601200, ""},
		{"168", 57600, "8"}, {"169", 57600, "9"}, {"170", 61200, "0"}, {"199", 68400, "9"}, {"200", 72000, "0"}, {"267", 93600, "7"}, {"999", 356400, "9"}, {"168:30", 57600, "8:30"}, {"999:59:59", 356400, "9:59:59"},
		{"0000", 0, "0"}, {"0001", 0, "1"}, {"0167", 57600, "7"}, {"1000", 360000, "0"}, {"1670", 601200, "0"}, {"1679", 601200, "9"}, {"1680", 57600, "80"}, {"9999", 356400, "99"}, {"9999:30", 356400, "99:30"}, {"00000000", 0, "00000"}, {"1234567890", 442800, "4567890"}, {"18446744073709551616", 64800, "446744073709551616"},
		{"1:00", 3600, ""}, {"1:01", 3660, ""}, {"1:30", 5400, ""}, {"1:59", 7140, ""}, {"01:09", 4140, ""}, {"167:59", 604740, ""}, {"0:00", 0, ""}, {"0:01", 60, ""},
		{"1:", 3600, ":"}, {"1:5", 3600, ":5"}, {"1:05", 3900, ""}, {"1:055", 3900, "5"}, {"1:005", 3600, "5"}, {"1:60", 3600, ":60"}, {"1:61", 3600, ":61"}, {"1:99", 3600, ":99"}, {"1:600", 3600, ":600"}, {"1:590", 7140, "0"}, {"1:5:05", 3600, ":5:05"}, {"1:60:05", 3600, ":60:05"}, {"1::05", 3600, "::05"}, {"1:-5", 3600, ":-5"}, {"1:+05", 3600, ":+05"}, {"1: 5", 3600, ": 5"}, {"1:5 ", 3600, ":5 "}, {"1:x", 3600, ":x"}, {"1:0x", 3600, ":0x"}, {"1:x0", 3600, ":x0"},
		{"1:00:00", 3600, ""}, {"1:00:01", 3601, ""}, {"1:00:59", 3659, ""}, {"1:59:59", 7199, ""}, {"167:59:59", 604799, ""}, {"0:00:00", 0, ""}, {"0:00:01", 1, ""},
		{"1:05:", 3900, ":"}, {"1:05:7", 3900, ":7"}, {"1:05:07", 3907, ""}, {"1:05:077", 3907, "7"}, {"1:05:007", 3900, "7"}, {"1:05:60", 3900, ":60"}, {"1:05:61", 3900, ":61"}, {"1:05:99", 3900, ":99"}, {"1:05:600", 3900, ":600"}, {"1:05:590", 3959, "0"}, {"1:05::07", 3900, "::07"}, {"1:05:-7", 3900, ":-7"}, {"1:05: 7", 3900, ": 7"}, {"1:05:x7", 3900, ":x7"}, {"1:05:7x", 3900, ":7x"}, {"1:05 :07", 3900, " :07"}, {"1:055:07", 3900, "5:07"},
		{"1:05:07:", 3907, ":"}, {"1:05:07:09", 3907, ":09"}, {"1:05:07.9", 3907, ".9"}, {"1:05:07Z", 3907, "Z"}, {"1:05:07 ", 3907, " "},
		{"+0", 0, ""}, {"+1", 3600, ""}, {"+01", 3600, ""}, {"+167", 601200, ""}, {"+168", 57600, "8"}, {"+1:30", 5400, ""}, {"+1:05:07", 3907, ""}, {"+1:60", 3600, ":60"}, {"+1000", 360000, "0"},
		{"-0", 0, ""}, {"-00", 0, ""}, {"-000:00:00", 0, ""}, {"-1", -3600, ""}, {"-01", -3600, ""}, {"-167", -601200, ""}, {"-168", -57600, "8"}, {"-200", -72000, "0"}, {"-999", -356400, "9"}, {"-1:30", -5400, ""}, {"-1:05:07", -3907, ""}, {"-167:59:59", -604799, ""}, {"-1:60", -3600, ":60"}, {"-1:05:60", -3900, ":60"}, {"-1000", -360000, "0"},
		{"-0:30", -1800, ""}, {"-0:00:30", -30, ""}, {"-0:01", -60, ""}, {"-0:00:01", -1, ""}, {"-00:59:59", -3599, ""}, {"-000:30", -1800, ""}, {"+0:30", 1800, ""}, {"+0:00:30", 30, ""}, {"-0:60", 0, ":60"},
		{"1-", 3600, "-"}, {"1+", 3600, "+"}, {"1-1", 3600, "-1"}, {"1 ", 3600, " "}, {"1 :30", 3600, " :30"}, {"1,", 3600, ","}, {"1,M3.2.0", 3600, ",M3.2.0"}, {"1/2", 3600, "/2"}, {"1.5", 3600, ".5"}, {"1;30", 3600, ";30"}, {"1h", 3600, "h"}, {"1x:30", 3600, "x:30"}, {"10EDT", 36000, "EDT"}, {"5EDT4", 18000, "EDT4"}, {"5<-03>", 18000, "<-03>"}, {"1\n", 3600, "\n"}, {"1\x00", 3600, "\x00"}, {"1\xff", 3600, "\xff"}, {"1e2", 3600, "e2"}, {"0x1", 0, "x1"}, {"1_0", 3600, "_0"},
		{"1\u0663", 3600, "\u0663"}, {"1:\u06630", 3600, ":\u06630"}, {"1:3\u0663", 3600, ":3\u0663"}, {"1:30:\uff11\uff11", 5400, ":\uff11\uff11"}, {"1\uff1a30", 3600, "\uff1a30"}, {"1:30\u00e9", 5400, "\u00e9"},
	} {
		checkTime(t, x.s, x.want, x.rest, true)
		if x.s[0] != '-' && x.s[0] != '+' {
			checkTime(t, "+"+x.s, x.want, x.rest, true)
			checkTime(t, "-"+x.s, -x.want, x.rest, true)
		}
	}
}

// noTimes are texts that begin with no time.
func noTimes() []string {
	return []string{
		"", "+", "-", "+-", "-+", "--", "++", "+-1", "-+1", "--1", "++1", "+ 1", "- 1", " 1", "\t1", "\n1", " +1", " -1", ":", ":1", ":30", ":30:00", "+:30", "-:30", "::", "/", "/1", ",1", ".1", "-.1", "x", "x1", "h1", "A", "+x", "-x1", "M3.2.0", "J60", "<1", "\x001", "\xff1", "-\xff",
		"\u0663", "\u06601", "\uff11", "+\uff11", "\u22121", "\u00b2", "\u2070", "\U0001d7cf", "\u0130", "\uff0b1", "\ufeff1", "\u00a01", "\xb11", "\xc0\xb1", "\xe0\x80\xb1",
	}
}

// P17.2: texts that begin with no time are told as they are.
func TestNoTimes(t *testing.T) {
	for _, s := range noTimes() {
		checkNoTime(t, s)
		checkNoTime(t, s+strings.Repeat("x", 100))
	}
}

// P17.2: all numbers of up to four digits, of hours; with each sign, and with minutes behind them, which are left where not all digits are hours.
func TestEachNumberOfHours(t *testing.T) {
	for width := 1; width <= 4; width++ {
		for n, end := 0, []int{10, 100, 1000, 10000}[width-1]; n < end; n++ {
			s := fmt.Sprintf("%0*d", width, n)
			hours, rest := n, ""
			if width == 4 {
				hours, rest = n/10, s[3:]
			}
			if hours > 167 {
				hours, rest = hours/10, s[2:]
			}
			checkTime(t, s, hours*3600, rest, true)
			checkTime(t, "-"+s, -hours*3600, rest, true)
			checkTime(t, "+"+s, hours*3600, rest, true)
			minutes, behind := 0, rest+":01"
			if rest == "" {
				minutes, behind = 1, ""
			}
			checkTime(t, s+":01", hours*3600+minutes*60, behind, true)
			checkTime(t, "-"+s+":01", -hours*3600-minutes*60, behind, true)
		}
	}
}

// P17.2: all numbers of up to three digits, of minutes and of seconds.
func TestEachNumberOfMinutesAndSeconds(t *testing.T) {
	for width := 1; width <= 3; width++ {
		for n, end := 0, []int{10, 100, 1000}[width-1]; n < end; n++ {
			s := fmt.Sprintf("%0*d", width, n)
			value, rest := 0, ":"+s
			if width > 1 && s < "6" {
				value, _ = strconv.Atoi(s[:2])
				rest = s[2:]
			}
			checkTime(t, "3:"+s, 10800+value*60, rest, true)
			checkTime(t, "-3:"+s, -10800-value*60, rest, true)
			checkTime(t, "3:07:"+s, 11220+value, rest, true)
			checkTime(t, "-3:07:"+s, -11220-value, rest, true)
			if rest == "" {
				checkTime(t, "3:"+s+":"+s, 10800+value*61, "", true)
			} else {
				checkTime(t, "3:"+s+":07", 10800+value*60, rest+":07", true)
			}
		}
	}
}

// P17.2: each byte at each place of times.
func TestEachByteOfTimes(t *testing.T) {
	for _, s := range []string{"1", "16", "167", "-1", "+167", "1:05", "-167:59", "1:05:07", "-167:59:59", "+0:00:00:00", "1670:30"} {
		for k := range len(s) + 1 {
			for c := range 256 {
				one := string([]byte{byte(c)})
				for _, u := range []string{s[:k] + one + s[min(k+1, len(s)):], s[:k] + one + s[k:]} {
					n, rest, ok := slowTime(u)
					checkTime(t, u, n, rest, ok)
				}
			}
		}
	}
}

// P17.2: all texts of up to six of the bytes that count.
func TestTimeOfAllShortTexts(t *testing.T) {
	all := []string{""}
	for from := 0; len(all[from]) < 6; from++ {
		for _, c := range []string{"-", ":", "0", "1", "6", "8"} {
			all = append(all, all[from]+c)
		}
	}
	for _, s := range all {
		n, rest, ok := slowTime(s)
		checkTime(t, s, n, rest, ok)
		n, rest, ok = slowTime("16" + s)
		checkTime(t, "16"+s, n, rest, ok)
	}
}

// P17.3: texts written out.
func TestTextByHand(t *testing.T) {
	for want, r := range map[string]api.Rule{
		"M3.2.0": weeks(3, 2, 0), "M1.1.0": weeks(1, 1, 0), "M12.5.6": weeks(12, 5, 6), "M10.5.0": weeks(10, 5, 0), "M9.1.6": weeks(9, 1, 6), "M11.1.0/2:00:01": at(weeks(11, 1, 0), 7201),
		"M3.2.0/0": at(weeks(3, 2, 0), 0), "M3.2.0/1": at(weeks(3, 2, 0), 3600), "M3.2.0/-1": at(weeks(3, 2, 0), -3600), "M3.2.0/-2": at(weeks(3, 2, 0), -7200), "M3.2.0/1:30": at(weeks(3, 2, 0), 5400), "M3.2.0/-1:30": at(weeks(3, 2, 0), -5400), "M10.4.4/50": at(weeks(10, 4, 4), 180000),
		"J1": julian(1), "J9": julian(9), "J59": julian(59), "J60": julian(60), "J100": julian(100), "J365": julian(365), "J60/0": at(julian(60), 0), "J60/-0:00:01": at(julian(60), -1), "J365/25": at(julian(365), 90000), "J365/167:59:59": at(julian(365), 604799),
		"0": days(0), "1": days(1), "59": days(59), "60": days(60), "365": days(365), "0/0": at(days(0), 0), "0/24": at(days(0), 86400), "365/-167:59:59": at(days(365), -604799), "10/1:59:59": at(days(10), 7199), "10/2:01": at(days(10), 7260), "10/0:02": at(days(10), 120), "10/0:00:02": at(days(10), 2),
	} {
		checkRight(t, r, true)
		checkText(t, r, want, true)
		checkParse(t, want, r, "", true)
	}
}

// allRules calls what is asked of each rule that is right, but for its Sec, which is usual.
func allRules(ask func(r api.Rule)) {
	for a := 1; a <= 12; a++ {
		for b := 1; b <= 5; b++ {
			for c := range 7 {
				ask(weeks(a, b, c))
			}
		}
	}
	for a := range 366 {
		if a > 0 {
			ask(julian(a))
		}
		ask(days(a))
	}
}

// P17.1, P17.3, P17.4, P17.7: all rules, with seconds at all edges: what was written is read as it was, and what is behind it is left.
func TestWhatWasWrittenIsReadAsItWas(t *testing.T) {
	behind := []string{"", ",", ",M11.1.0", "x", "-", "+", " ", ".", ".0", "/", "J", "M", "\n", "\xff", "\u0663", ":"}
	count := 0
	allRules(func(r api.Rule) {
		for k, sec := range edgeSeconds() {
			one := at(r, sec)
			checkRight(t, one, true)
			s, ok := Text(one)
			if s != slowText(one) || !ok {
				t.Fatalf("Text(%+v): %q, %t; want %q, true", one, s, ok, slowText(one))
			}
			checkParse(t, s, one, "", true)
			rest := behind[(k+count)%len(behind)]
			if rest == "/" && sec == 7200 {
				// Of a rule without a time it would begin one.
				rest = ""
			}
			checkParse(t, s+rest, one, rest, true)
			count++
		}
	})
	if want := (12*5*7 + 365 + 366) * len(edgeSeconds()); count != want {
		t.Errorf("%d rules; want %d", count, want)
	}
}

// P17.3, P17.7: two rules that differ have two texts.
func TestTextsDiffer(t *testing.T) {
	had := map[string]api.Rule{}
	allRules(func(r api.Rule) {
		for _, sec := range []int{7200, 0, -7200, 7201, 604799} {
			s, _ := Text(at(r, sec))
			if one, has := had[s]; has {
				t.Errorf("%q is the text of %+v and of %+v", s, one, at(r, sec))
			}
			had[s] = at(r, sec)
		}
	})
}

// P17.3, P17.4, P17.7: some rules with each second.
func TestEachSecondOfRules(t *testing.T) {
	all := someRules()
	for sec := -604799; sec <= 604799; sec++ {
		r := at(all[(sec+604799)%len(all)], sec)
		s, ok := Text(r)
		if got, rest, is := Parse(s); got != r || rest != "" || !ok || !is {
			t.Fatalf("Text(%+v): %q, %t, which is read as %+v, %q, %t", r, s, ok, got, rest, is)
		}
	}
}

// P17.4: texts that Text does not write, with what is left.
func TestParseByHand(t *testing.T) {
	for _, x := range []struct {
		s    string
		want api.Rule
		rest string
	}{
		{"M03.2.0", weeks(3, 2, 0), ""}, {"M01.1.0", weeks(1, 1, 0), ""}, {"M09.5.6", weeks(9, 5, 6), ""}, {"M12.5.6", weeks(12, 5, 6), ""}, {"M10.1.1", weeks(10, 1, 1), ""},
		{"J001", julian(1), ""}, {"J01", julian(1), ""}, {"J1", julian(1), ""}, {"J060", julian(60), ""}, {"J60", julian(60), ""}, {"J099", julian(99), ""}, {"J365", julian(365), ""},
		{"0", days(0), ""}, {"00", days(0), ""}, {"000", days(0), ""}, {"1", days(1), ""}, {"01", days(1), ""}, {"001", days(1), ""}, {"59", days(59), ""}, {"059", days(59), ""}, {"365", days(365), ""},
		{"M3.2.0/2", weeks(3, 2, 0), ""}, {"M3.2.0/02", weeks(3, 2, 0), ""}, {"M3.2.0/002", weeks(3, 2, 0), ""}, {"M3.2.0/+2", weeks(3, 2, 0), ""}, {"M3.2.0/2:00", weeks(3, 2, 0), ""}, {"M3.2.0/2:00:00", weeks(3, 2, 0), ""}, {"M3.2.0/-0", at(weeks(3, 2, 0), 0), ""}, {"M3.2.0/+0:00", at(weeks(3, 2, 0), 0), ""}, {"M3.2.0/-0:30", at(weeks(3, 2, 0), -1800), ""},
		{"J60/-1", at(julian(60), -3600), ""}, {"J60/167:59:59", at(julian(60), 604799), ""}, {"59/24", at(days(59), 86400), ""}, {"0/0", at(days(0), 0), ""}, {"0/-167:59:59", at(days(0), -604799), ""},
		{"59/168", at(days(59), 57600), "8"}, {"J59/200", at(julian(59), 72000), "0"}, {"M3.2.0/999", at(weeks(3, 2, 0), 356400), "9"}, {"59/1000", at(days(59), 360000), "0"}, {"59/1:60", at(days(59), 3600), ":60"}, {"59/1:5", at(days(59), 3600), ":5"}, {"59/1:", at(days(59), 3600), ":"}, {"59/1:05:", at(days(59), 3900), ":"}, {"59/1:05:7", at(days(59), 3900), ":7"}, {"59/1:05:60", at(days(59), 3900), ":60"}, {"59/1:055", at(days(59), 3900), "5"}, {"59/1/2", at(days(59), 3600), "/2"}, {"59/1-", at(days(59), 3600), "-"},
		{"M3.2.0,M11.1.0", weeks(3, 2, 0), ",M11.1.0"}, {"M3.2.0/3,M11.1.0/1", at(weeks(3, 2, 0), 10800), ",M11.1.0/1"}, {"J60,J300", julian(60), ",J300"}, {"60,300", days(60), ",300"}, {"0,", days(0), ","},
		{"M3.2.0.", weeks(3, 2, 0), "."}, {"M3.2.0.0", weeks(3, 2, 0), ".0"}, {"M3.2.0 ", weeks(3, 2, 0), " "}, {"M3.2.0M3.2.0", weeks(3, 2, 0), "M3.2.0"}, {"M3.2.0J1", weeks(3, 2, 0), "J1"}, {"M3.2.0-1", weeks(3, 2, 0), "-1"}, {"M3.2.0:30", weeks(3, 2, 0), ":30"}, {"M3.2.0\x00", weeks(3, 2, 0), "\x00"}, {"M3.2.0\u0663", weeks(3, 2, 0), "\u0663"}, {"M3.2.0\xff", weeks(3, 2, 0), "\xff"}, {"M3.2.0 /1", weeks(3, 2, 0), " /1"}, {"M3.2.0\\1", weeks(3, 2, 0), "\\1"}, {"M3.2.0\uff0f1", weeks(3, 2, 0), "\uff0f1"},
		{"J60.", julian(60), "."}, {"J60.2.0", julian(60), ".2.0"}, {"J60J60", julian(60), "J60"}, {"J1 ", julian(1), " "}, {"J1x", julian(1), "x"}, {"J36\u0665", julian(36), "\u0665"}, {"J365 5", julian(365), " 5"},
		{"59.1", days(59), ".1"}, {"3.2.0", days(3), ".2.0"}, {"0x10", days(0), "x10"}, {"1J", days(1), "J"}, {"1M3.2.0", days(1), "M3.2.0"}, {"1 ", days(1), " "}, {"1-", days(1), "-"}, {"1:30", days(1), ":30"}, {"36\u0665", days(36), "\u0665"}, {"1e2", days(1), "e2"}, {"1_0", days(1), "_0"}, {"1\n", days(1), "\n"},
	} {
		checkParse(t, x.s, x.want, x.rest, true)
	}
}

// noRules are texts that begin with no rule.
func noRules() []string {
	return []string{
		"", " ", "x", "+", "-", ".", "/", "/2", ",", ":", "\n", "\x00", "\xff", "\u0663", "\uff11", "\uff2d3.2.0", " 1", "\t1", "+1", "-1", "-0", " M3.2.0", " J60", "\ufeffM3.2.0", "<1>", "K60", "L3.2.0", "N3.2.0", "I60",
		"M", "M.", "M..", "M3", "M3.", "M3.2", "M3.2.", "M3..0", "M.2.0", "M..0", "M3.2.x", "M3.x.0", "Mx.2.0", "M3,2,0", "M3.2,0", "M3,2.0", "M3 2 0", "M3:2:0", "M3-2-0", "M3/2", "M320", "M32.0", "M3.20", "M3.2/0", "M3.2/2", "M3/2.0", "M 3.2.0", "M3 .2.0", "M3. 2.0", "M3.2. 0", "M3.2 .0", "M+3.2.0", "M-3.2.0", "M3.+2.0", "M3.-2.0", "M3.2.+0", "M3.2.-1", "MM3.2.0", "MJ60", "M60", "M/2",
		"M003.2.0", "M012.2.0", "M0003.2.0", "M13.1.0", "M14.1.0", "M20.1.0", "M99.1.0", "M100.1.0", "M0.1.0", "M00.1.0", "M000.1.0", "M3.0.0", "M3.6.0", "M3.7.0", "M3.9.0", "M3.02.0", "M3.22.0", "M3.20.0", "M3.00.0", "M3.11.0", "M3.2.7", "M3.2.8", "M3.2.9", "M3.2.00", "M3.2.01", "M3.2.10", "M3.2.66", "M3.2.000", "M3.2.01/2", "M3.2.7/2", "M13.2.0/2", "M4294967297.1.0", "M18446744073709551617.1.0", "M3.18446744073709551617.0", "M3.2.18446744073709551616",
		"M\u0663.2.0", "M3.\u0662.0", "M3.2.\u0660", "M1\u0660.1.0", "M3.2\uff0e0", "M3\u00b7.2.0",
		"m3.2.0", "j60", "m", "j", "j1", "m03.2.0/2",
		"J", "J0", "J00", "J000", "J366", "J367", "J400", "J999", "J0000", "J0001", "J0060", "J0365", "J3650", "J1000", "J9999", "J00001", "J18446744073709551617", "J0/2", "J366/2", "J0060/2", "J/2", "Jx", "J-1", "J+1", "J 1", "JJ1", "JM3.2.0", "J.", "J\u0661", "J\xb1",
		"366", "367", "400", "999", "0000", "0001", "0365", "0060", "3650", "1000", "9999", "00000", "18446744073709551616", "18446744073709551617", "366/2", "0365/2", "1000/2",
		"M3.2.0/", "M3.2.0/ ", "M3.2.0/x", "M3.2.0/-", "M3.2.0/+", "M3.2.0/+-1", "M3.2.0/--1", "M3.2.0/:30", "M3.2.0//2", "M3.2.0/ 2", "M3.2.0/M", "M3.2.0/,", "M3.2.0/.5", "M3.2.0/\u0662", "M3.2.0/\xff",
		"J60/", "J60/x", "J60/,J300", "J60/-", "J60/:", "59/", "59/x", "59/-", "59/+-1", "59//1", "59/\n", "0/", "365/",
	}
}

// P17.4: texts that begin with no rule are told as they are, with a zero one.
func TestNoRules(t *testing.T) {
	for _, s := range noRules() {
		checkNoRule(t, s)
	}
	// What is behind them makes them none, too.
	for _, s := range noRules() {
		for _, more := range []string{",M11.1.0", ":", "x", "-"} {
			r, rest, ok := slowParse(s + more)
			checkParse(t, s+more, r, rest, ok)
		}
	}
	for _, s := range noTimes() {
		checkNoRule(t, "M3.2.0/"+s)
		checkNoRule(t, "J60/"+s)
		checkNoRule(t, "59/"+s)
	}
}

// P17.4: each number of up to four digits in each place.
func TestEachNumberOfRules(t *testing.T) {
	check := func(s string, want api.Rule, ok bool) {
		t.Helper()
		if !ok {
			checkNoRule(t, s+",x")
			checkNoRule(t, s+"/1,x")
			return
		}
		checkParse(t, s+",x", want, ",x", true)
		checkParse(t, s+"/1,x", at(want, 3600), ",x", true)
	}
	for width := 1; width <= 4; width++ {
		for n, end := 0, []int{10, 100, 1000, 10000}[width-1]; n < end; n++ {
			s := fmt.Sprintf("%0*d", width, n)
			check("J"+s, julian(n), width < 4 && n > 0 && n < 366)
			check(s, days(n), width < 4 && n < 366)
			check("M"+s+".2.0", weeks(n, 2, 0), width < 3 && n > 0 && n < 13)
			check("M3."+s+".0", weeks(3, n, 0), width < 2 && n > 0 && n < 6)
			check("M3.2."+s, weeks(3, 2, n), width < 2 && n < 7)
		}
	}
}

// P17.4: each byte at each place of rules.
func TestEachByteOfRules(t *testing.T) {
	for _, s := range []string{"M3.2.0", "M12.5.6/-1:30", "M10.1.3/2:00:01", "J60", "J365/167:59:59", "J1/0", "0", "59/24", "365/-167:59:59,M"} {
		for k := range len(s) + 1 {
			for c := range 256 {
				one := string([]byte{byte(c)})
				for _, u := range []string{s[:k] + one + s[min(k+1, len(s)):], s[:k] + one + s[k:]} {
					r, rest, ok := slowParse(u)
					checkParse(t, u, r, rest, ok)
				}
			}
			r, rest, ok := slowParse(s[:k])
			checkParse(t, s[:k], r, rest, ok)
			r, rest, ok = slowParse(s[k:])
			checkParse(t, s[k:], r, rest, ok)
		}
	}
}

// P17.4, P17.2: any texts, most of them nearly rules, against the slow ways.
func TestAnyTexts(t *testing.T) {
	r := rand.New(rand.NewSource(17))
	parts := []string{"M", "J", "0", "1", "2", "3", "5", "6", "7", "12", "60", "167", "168", "365", "366", ".", ".", "/", ":", "-", "+", ",", " ", "x", "\u0663", "\xff"}
	rights := 0
	for range 200000 {
		var s string
		if all := someRules(); r.Intn(2) == 0 {
			s = slowText(at(all[r.Intn(len(all))], r.Intn(2*604799+1)-604799))
		}
		for range r.Intn(9) {
			k := r.Intn(len(s) + 1)
			s = s[:k] + parts[r.Intn(len(parts))] + s[min(len(s), k+r.Intn(2)):]
		}
		want, rest, ok := slowParse(s)
		checkParse(t, s, want, rest, ok)
		if ok {
			rights++
		}
		n, rest, ok := slowTime(s)
		checkTime(t, s, n, rest, ok)
	}
	// Both must be often enough to say something.
	if rights < 20000 || rights > 180000 {
		t.Errorf("of 200000 texts %d begin with a rule", rights)
	}
}

// W1, P17.2, P17.4: long texts; what is behind is left, all of it.
func TestLongTexts(t *testing.T) {
	for _, one := range []string{"0", "9", ":", "-", ".", "/", "M", "\u0663", "M3.2.0", "1:00"} {
		long := strings.Repeat(one, 1<<18)
		for _, s := range []string{long, "-" + long, "1" + long, "1:" + long, "1:00" + long, "1:00:" + long, "1:00:00" + long} {
			n, rest, ok := slowTime(s)
			checkTime(t, s, n, rest, ok)
		}
		for _, s := range []string{long, "M" + long, "M3." + long, "M3.2." + long, "M3.2.0" + long, "M3.2.0/" + long, "J" + long, "J1" + long, "J1/" + long, "0" + long, "0/" + long, "0,/" + long} {
			r, rest, ok := slowParse(s)
			checkParse(t, s, r, rest, ok)
		}
	}
}

// dateNumber tells the number of a day by the library.
func dateNumber(y, m, d int) int {
	return int(time.Date(y, time.Month(m), d, 0, 0, 0, 0, time.UTC).Unix() / 86400)
}

// P17.5: days written out.
func TestDayByHand(t *testing.T) {
	for _, x := range []struct {
		r       api.Rule
		y, m, d int
	}{
		{weeks(3, 2, 0), 2024, 3, 10}, {weeks(11, 1, 0), 2024, 11, 3}, {weeks(10, 5, 0), 2024, 10, 27}, {weeks(3, 5, 0), 2024, 3, 31}, {weeks(3, 5, 0), 2023, 3, 26}, {weeks(3, 5, 0), 2020, 3, 29},
		{weeks(2, 1, 4), 2024, 2, 1}, {weeks(2, 4, 4), 2024, 2, 22}, {weeks(2, 5, 4), 2024, 2, 29}, {weeks(2, 5, 4), 2023, 2, 23}, {weeks(2, 4, 4), 2023, 2, 23}, {weeks(2, 5, 3), 2023, 2, 22}, {weeks(2, 4, 3), 2023, 2, 22}, {weeks(2, 1, 3), 2023, 2, 1}, {weeks(2, 5, 5), 2024, 2, 23}, {weeks(2, 5, 3), 2024, 2, 28},
		{weeks(9, 1, 6), 2001, 9, 1}, {weeks(9, 1, 5), 2001, 9, 7}, {weeks(9, 5, 6), 2001, 9, 29}, {weeks(9, 5, 0), 2001, 9, 30}, {weeks(9, 5, 1), 2001, 9, 24}, {weeks(9, 4, 1), 2001, 9, 24}, {weeks(9, 4, 0), 2001, 9, 23}, {weeks(1, 1, 0), 2023, 1, 1}, {weeks(1, 5, 2), 2023, 1, 31}, {weeks(1, 5, 3), 2023, 1, 25},
		{weeks(1, 1, 4), 1970, 1, 1}, {weeks(1, 1, 3), 1970, 1, 7}, {weeks(1, 1, 1), 1, 1, 1}, {weeks(1, 1, 0), 1, 1, 7}, {weeks(12, 5, 5), 9999, 12, 31}, {weeks(12, 5, 6), 9999, 12, 25}, {weeks(2, 5, 2), 2000, 2, 29}, {weeks(2, 5, 3), 1900, 2, 28}, {weeks(2, 5, 4), 1900, 2, 22}, {weeks(2, 5, 2), 400, 2, 29},
		{julian(1), 2023, 1, 1}, {julian(1), 2024, 1, 1}, {julian(58), 2024, 2, 27}, {julian(59), 2023, 2, 28}, {julian(59), 2024, 2, 28}, {julian(60), 2023, 3, 1}, {julian(60), 2024, 3, 1}, {julian(61), 2024, 3, 2}, {julian(365), 2023, 12, 31}, {julian(365), 2024, 12, 31}, {julian(60), 1900, 3, 1}, {julian(60), 2000, 3, 1}, {julian(1), 1, 1, 1}, {julian(365), 1, 12, 31}, {julian(365), 9999, 12, 31}, {julian(60), 4, 3, 1}, {julian(60), 100, 3, 1},
		{days(0), 2023, 1, 1}, {days(0), 2024, 1, 1}, {days(1), 2024, 1, 2}, {days(58), 2023, 2, 28}, {days(58), 2024, 2, 28}, {days(59), 2023, 3, 1}, {days(59), 2024, 2, 29}, {days(60), 2023, 3, 2}, {days(60), 2024, 3, 1}, {days(364), 2023, 12, 31}, {days(364), 2024, 12, 30}, {days(365), 2023, 13, 1}, {days(365), 2024, 12, 31}, {days(59), 1900, 3, 1}, {days(59), 2000, 2, 29}, {days(0), 1, 1, 1}, {days(365), 1, 13, 1}, {days(364), 9999, 12, 31}, {days(365), 9999, 13, 1}, {days(0), 9999, 1, 1},
	} {
		checkDay(t, x.r, x.y, dateNumber(x.y, x.m, x.d), true)
	}
	for _, x := range []struct {
		r       api.Rule
		y, want int
	}{
		{days(0), 1970, 0}, {days(1), 1970, 1}, {days(365), 1969, 0}, {julian(1), 1970, 0}, {julian(365), 1969, -1}, {days(0), 1, api.MinDay}, {julian(1), 1, api.MinDay}, {weeks(1, 1, 1), 1, api.MinDay},
		{julian(365), 9999, api.MaxDay}, {days(364), 9999, api.MaxDay}, {weeks(12, 5, 5), 9999, api.MaxDay}, {days(365), 9999, api.MaxDay + 1}, {julian(60), 1972, 790}, {days(59), 1972, 789},
	} {
		checkDay(t, x.r, x.y, x.want, true)
	}
}

// year is a year's days by months: the weekday of each, from 1 on, and the number of the first.
type year struct {
	first int
	weeks [13][]int
}

// walk calls what is asked of each year, counted day by day: the first of the year 1 is a Monday.
func walk(ask func(y int, one year)) {
	n, weekday := api.MinDay, 1
	for y := 1; y <= 9999; y++ {
		one := year{first: n}
		for m, long := range []int{31, 28, 31, 30, 31, 30, 31, 31, 30, 31, 30, 31} {
			if m == 1 && (y%400 == 0 || y%4 == 0 && y%100 != 0) {
				long++
			}
			for range long {
				one.weeks[m+1] = append(one.weeks[m+1], weekday)
				weekday = (weekday + 1) % 7
				n++
			}
		}
		ask(y, one)
	}
}

// slowWeeks tells the number of the day of a rule of weeks: each day of its month is looked at.
func (one year) slowWeeks(r api.Rule) int {
	n := one.first
	for m := 1; m < r.A; m++ {
		n += len(one.weeks[m])
	}
	last, count := 0, 0
	for k, weekday := range one.weeks[r.A] {
		if weekday == r.C && (count < r.B || r.B == 5) {
			last = k
			count++
		}
	}
	return n + last
}

// slowJulian tells the numbers of all days of the year but for the 29th of February, from 1 on.
func (one year) slowJulian() []int {
	l := []int{0}
	n := one.first
	for m, weekdays := range one.weeks {
		for k := range weekdays {
			if m != 2 || k != 28 {
				l = append(l, n)
			}
			n++
		}
	}
	return l
}

// P17.5: rules of weeks, each of them, in each year, against a count day by day.
func TestEachWeek(t *testing.T) {
	fours, fives := 0, 0
	walk(func(y int, one year) {
		for a := 1; a <= 12; a++ {
			for c := range 7 {
				var got [6]int
				for b := 1; b <= 5; b++ {
					r := weeks(a, b, c)
					n, ok := Day(r, y)
					if want := one.slowWeeks(r); n != want || !ok {
						t.Fatalf("Day(%+v, %d): %d, %t; want %d, true", r, y, n, ok, want)
					}
					got[b] = n
				}
				switch got[5] - got[4] {
				case 0:
					fours++
				case 7:
					fives++
				default:
					t.Fatalf("weekday %d of month %d of %d: the fourth is %d, the last %d", c, a, y, got[4], got[5])
				}
			}
		}
	})
	// Four of each weekday, and a fifth of each one that a month has beyond four weeks.
	if want := api.MaxDay - api.MinDay + 1 - 9999*12*28; fives != want || fours != 9999*12*7-want {
		t.Errorf("%d weekdays come four times, %d five times; want %d of the latter", fours, fives, want)
	}
}

// P17.5: rules of days, each of them, in each year, against a count day by day.
func TestEachDay(t *testing.T) {
	walk(func(y int, one year) {
		counted := one.slowJulian()
		if len(counted) != 366 {
			t.Fatalf("%d has %d days that are counted", y, len(counted)-1)
		}
		for a := range 366 {
			if n, ok := Day(days(a), y); n != one.first+a || !ok {
				t.Fatalf("Day(%+v, %d): %d, %t; want %d, true", days(a), y, n, ok, one.first+a)
			}
			if a == 0 {
				continue
			}
			if n, ok := Day(julian(a), y); n != counted[a] || !ok {
				t.Fatalf("Day(%+v, %d): %d, %t; want %d, true", julian(a), y, n, ok, counted[a])
			}
		}
	})
}

// P17.5: the library's calendar of rules of weeks, and seconds at all edges, in years of each kind.
func TestSecondsOfDays(t *testing.T) {
	for _, y := range []int{1, 2, 4, 100, 400, 1582, 1900, 1969, 1970, 1972, 2000, 2023, 2024, 9996, 9999} {
		for _, r := range someRules() {
			var want int
			switch r.Kind {
			case api.RuleDay:
				want = dateNumber(y, 1, 1+r.A)
			case api.RuleJulian:
				// 2023 does not leap: its days have the dates that are counted.
				_, m, d := time.Date(2023, 1, r.A, 0, 0, 0, 0, time.UTC).Date()
				want = dateNumber(y, int(m), d)
			default:
				want = libraryWeek(r, y)
			}
			for _, sec := range edgeSeconds() {
				checkDay(t, at(r, sec), y, want, true)
			}
		}
	}
}

// libraryWeek tells the number of the day of a rule of weeks by the library.
func libraryWeek(r api.Rule, y int) int {
	first := dateNumber(y, r.A, 1)
	n := first
	for (time.Unix(int64(n)*86400, 0).UTC().Weekday()) != time.Weekday(r.C) {
		n++
	}
	for b := 1; b < r.B && time.Unix(int64(n+7)*86400, 0).UTC().Month() == time.Month(r.A); b++ {
		n += 7
	}
	return n
}

// P17.5: seconds written out, at both ends of years, and of rules' seconds.
func TestAtByHand(t *testing.T) {
	for _, x := range []struct {
		r       api.Rule
		y, want int
	}{
		{days(0), 1970, 7200}, {at(days(0), 0), 1970, 0}, {at(days(0), -1), 1970, -1}, {at(days(0), 604799), 1970, 604799}, {at(days(0), -604799), 1970, -604799}, {at(julian(1), 86400), 1970, 86400},
		{at(weeks(1, 1, 4), -3600), 1970, -3600}, {weeks(3, 2, 0), 2024, 1710036000}, {at(weeks(11, 1, 0), 3600), 2024, 1730595600}, {at(weeks(3, 5, 0), 3600), 2024, 1711846800}, {at(days(59), 0), 1972, 68169600}, {at(julian(60), 0), 1972, 68256000},
		{at(days(0), -604799), 1, -62135596800 - 604799}, {at(days(0), 604799), 1, -62135596800 + 604799}, {at(julian(1), 0), 1, -62135596800}, {at(julian(365), 86399), 9999, 253402300799}, {at(days(365), 604799), 9999, 253402300800 + 604799}, {at(days(365), -604799), 9999, 253402300800 - 604799}, {at(weeks(12, 5, 5), 86399), 9999, 253402300799},
	} {
		if n, ok := At(x.r, x.y); n != x.want || !ok {
			t.Errorf("At(%+v, %d): %d, %t; want %d, true", x.r, x.y, n, ok, x.want)
		}
	}
}

// P17.5: years that there are not.
func TestOtherYears(t *testing.T) {
	for _, y := range []int{0, -1, -4, -400, -9999, 10000, 10001, 12024, 1 << 16, 1<<16 + 2024, 1 << 32, 1<<32 + 2024, -1<<32 + 2024, least, least + 1, least + 2024, most, most - 1, -most} {
		for _, r := range someRules() {
			for _, sec := range []int{7200, 0, -604799, 604799} {
				checkDay(t, at(r, sec), y, 0, false)
			}
		}
		for _, r := range wrongRules() {
			checkDay(t, r, y, 0, false)
		}
	}
}

// shares tells whether two texts that are not empty share memory.
func shares(a, b string) bool {
	first, second := uintptr(unsafe.Pointer(unsafe.StringData(a))), uintptr(unsafe.Pointer(unsafe.StringData(b)))
	return first < second+uintptr(len(b)) && second < first+uintptr(len(a))
}

// P17.6, W6: what is left is new memory: it keeps none of the text that was handed in, nor is that changed.
func TestTextsShareNothing(t *testing.T) {
	for _, s := range []string{"M3.2.0,M11.1.0", "J60/2:00:01xyz", "59/1:5", "1:05:077", "59/168", "M13.1.0", "x", "-", "\xff\xff"} {
		one := strings.Clone(s)
		_, rest, _ := Parse(one)
		_, left, _ := Time(one)
		if one != s {
			t.Errorf("%q became %q", s, one)
		}
		if rest != "" && shares(rest, one) || left != "" && shares(left, one) {
			t.Errorf("%q or %q shares memory with %q", rest, left, one)
		}
	}
	if one := strings.Clone("59/1:5"); !shares(one[4:], one) {
		t.Error("what shares memory is not seen")
	}
}

// answers tells what all calls answer, of all that may be, as a text.
func answers() string {
	var all strings.Builder
	for _, r := range append(someRules(), wrongRules()[:40]...) {
		text, ok := Text(r)
		n, has := Day(r, 2024)
		sec, is := At(r, 2023)
		fmt.Fprintln(&all, Right(r), text, ok, n, has, sec, is)
	}
	for _, sec := range append(edgeSeconds(), wrongSeconds()...) {
		fmt.Fprintln(&all, Right(at(days(0), sec)))
		s, ok := Clock(sec)
		fmt.Fprintln(&all, s, ok)
	}
	for _, s := range append(noRules(), "M3.2.0/1:30x", "J60", "59", "-1:05:077", "168") {
		r, rest, ok := Parse(s)
		n, left, is := Time(s)
		fmt.Fprintln(&all, r, rest, ok, n, left, is)
	}
	return all.String()
}

// P17.6, W2: no call hangs on an earlier one, whatever came between: nothing of the package is changed.
func TestNothingIsKept(t *testing.T) {
	had := answers()
	// Each thing behind each other one, right and wrong.
	for _, s := range []string{"M12.5.6/-167:59:59", "J365/167:59:59x", "0", "M13.1.0", "J0/1", "59/-", "", "365/168"} {
		for _, r := range []api.Rule{weeks(2, 5, 4), julian(60), days(365), {}, at(days(0), least), {Kind: most}} {
			want, rest, ok := slowParse(s)
			checkParse(t, s, want, rest, ok)
			n, left, is := slowTime(s)
			checkTime(t, s, n, left, is)
			Text(r)
			Day(r, 2024)
			At(r, 10000)
			Right(r)
			Clock(r.Sec)
			checkParse(t, s, want, rest, ok)
			checkTime(t, s, n, left, is)
		}
	}
	if again := answers(); again != had {
		t.Errorf("the answers were\n%s\nand are\n%s", had, again)
	}
}

// W2: calls at the same time, of the same things, do not touch each other.
func TestCallsAtTheSameTime(t *testing.T) {
	want := answers()
	var all sync.WaitGroup
	for range 16 {
		all.Go(func() {
			for range 20 {
				if got := answers(); got != want {
					t.Error("other answers at the same time as others")
				}
			}
		})
	}
	all.Wait()
}

// W1, P17.1 to P17.5, P17.7: whatever text, rule and year.
func FuzzRule(f *testing.F) {
	for _, s := range noRules() {
		f.Add(s, 0, 1, 1, 0, 7200, 2024)
	}
	for k, r := range someRules() {
		f.Add(slowText(at(r, 1000*k-5000))+",x", r.Kind, r.A, r.B, r.C, r.Sec, 1000*k)
	}
	f.Add("-167:59:59", least, least, least, least, least, least)
	f.Add("168:00", most, most, most, most, most, most)
	f.Fuzz(func(t *testing.T, s string, kind, a, b, c, sec, y int) {
		n, rest, ok := slowTime(s)
		checkTime(t, s, n, rest, ok)
		read, rest, ok := slowParse(s)
		checkParse(t, s, read, rest, ok)
		for _, r := range []api.Rule{read, {Kind: kind, A: a, B: b, C: c, Sec: sec}} {
			right := slowRight(r)
			checkRight(t, r, right)
			if !right {
				checkWrong(t, r)
				continue
			}
			checkText(t, r, slowText(r), true)
			checkParse(t, slowText(r), r, "", true)
			if y >= 1 && y <= 9999 && r.Kind == api.RuleWeek {
				checkDay(t, r, y, libraryWeek(r, y), true)
			}
		}
		if sec > -604800 && sec < 604800 {
			checkClock(t, sec, slowClock(sec), true)
		} else {
			checkClock(t, sec, "", false)
		}
	})
}
