package stamp

import (
	"fmt"
	"strconv"
	"strings"
	"testing"
	"time"

	"epact/api"
)

const (
	most  = api.MaxInt
	least = api.MinInt
)

// wrongDays are numbers of no day, wrongSeconds are none of a day.
func wrongDays() []int {
	return []int{api.MinDay - 1, api.MinDay - 2, api.MinDay - 146097, api.MaxDay + 1, api.MaxDay + 2, api.MaxDay + 146097, -1 << 32, 1 << 32, least, least + 1, most, most - 1}
}

func wrongSeconds() []int {
	return []int{-1, -2, -59, -60, -3600, -86399, -86400, -86401, 86401, 86402, 86460, 90000, 172800, -1 << 32, 1 << 32, 1<<32 + 1, least, least + 1, most, most - 1}
}

// edgeDays and edgeSeconds are those where something turns.
func edgeDays() []int {
	return []int{api.MinDay, api.MinDay + 1, -718798, -718797, -718008, -682945, -682944, -573066, -354286, -354285, -25509, -25508, -1, 0, 1, 911, 912, 10956, 10957, 11016, 17166, 17167, 19782, api.MaxDay - 1, api.MaxDay}
}

func edgeSeconds() []int {
	return []int{0, 1, 9, 10, 59, 60, 61, 599, 600, 3599, 3600, 3601, 3661, 35999, 36000, 43199, 43200, 45296, 82799, 82800, 86339, 86340, 86341, 86398, 86399, 86400}
}

// stamps are texts, and the days and seconds that they say, written out.
func stamps() map[string][2]int {
	return map[string][2]int{
		"0001-01-01T00:00:00Z": {api.MinDay, 0}, "0001-01-01T00:00:01Z": {api.MinDay, 1}, "0001-01-01T23:59:60Z": {api.MinDay, 86400},
		"0001-01-02T00:00:00Z": {api.MinDay + 1, 0}, "0001-12-31T23:59:59Z": {-718798, 86399}, "0004-02-29T00:01:00Z": {-718008, 60},
		"0100-02-28T09:10:11Z": {-682945, 33011}, "0400-12-31T10:00:00Z": {-573066, 36000},
		"1900-02-28T20:30:40Z": {-25509, 73840}, "1900-03-01T01:00:00Z": {-25508, 3600},
		"1969-12-31T12:34:56Z": {-1, 45296}, "1969-12-31T23:59:60Z": {-1, 86400},
		"1970-01-01T00:00:00Z": {0, 0}, "1970-01-01T00:00:59Z": {0, 59}, "1970-01-01T00:59:59Z": {0, 3599}, "1970-01-01T01:01:01Z": {0, 3661},
		"1970-01-02T00:00:00Z": {1, 0}, "1972-06-30T23:59:60Z": {911, 86400}, "1972-07-01T00:00:00Z": {912, 0},
		"2000-02-29T11:59:59Z": {11016, 43199}, "2016-12-31T23:58:59Z": {17166, 86339}, "2016-12-31T23:59:00Z": {17166, 86340},
		"2016-12-31T23:59:58Z": {17166, 86398}, "2016-12-31T23:59:59Z": {17166, 86399}, "2016-12-31T23:59:60Z": {17166, 86400},
		"2017-01-01T00:00:00Z": {17167, 0}, "2024-02-29T12:00:00Z": {19782, 43200},
		"9999-12-31T00:00:00Z": {api.MaxDay, 0}, "9999-12-31T23:59:59Z": {api.MaxDay, 86399}, "9999-12-31T23:59:60Z": {api.MaxDay, 86400},
	}
}

// refuse fails where a text is read.
func refuse(t *testing.T, s string) {
	t.Helper()
	if d, sec, ok := Parse(s); d != 0 || sec != 0 || ok {
		t.Errorf("Parse(%q): %d, %d, %v; want 0, 0, false", s, d, sec, ok)
	}
}

// said tells what a text says, by the library: it goes by the numbers alone, and asks whether they come back.
func said(s string) (int, int, bool) {
	var n [6]int
	for k, from := range []int{0, 5, 8, 11, 14, 17} {
		to := from + 2
		if k == 0 {
			to = from + 4
		}
		for _, b := range []byte(s[from:to]) {
			if b < '0' || b > '9' {
				return 0, 0, false
			}
		}
		n[k], _ = strconv.Atoi(s[from:to])
	}
	last, second := n[3] == 23 && n[4] == 59 && n[5] == 60, n[5]
	if last {
		second = 59
	}
	at := time.Date(n[0], time.Month(n[1]), n[2], n[3], n[4], second, 0, time.UTC)
	if want := s[:17] + fmt.Sprintf("%02dZ", second); n[0] == 0 || at.Format("2006-01-02T15:04:05Z") != want {
		return 0, 0, false
	}
	sec := at.Hour()*3600 + at.Minute()*60 + at.Second()
	if last {
		sec++
	}
	return int(at.Truncate(24*time.Hour).Unix() / api.Day), sec, true
}

// P4.1: seconds and clocks, written out.
func TestClockByHand(t *testing.T) {
	for sec, want := range map[int][3]int{
		0: {0, 0, 0}, 1: {0, 0, 1}, 59: {0, 0, 59}, 60: {0, 1, 0}, 61: {0, 1, 1}, 3599: {0, 59, 59}, 3600: {1, 0, 0}, 3661: {1, 1, 1},
		43199: {11, 59, 59}, 43200: {12, 0, 0}, 45296: {12, 34, 56}, 82799: {22, 59, 59}, 82800: {23, 0, 0},
		86339: {23, 58, 59}, 86340: {23, 59, 0}, 86398: {23, 59, 58}, 86399: {23, 59, 59}, 86400: {23, 59, 60},
	} {
		if h, m, s, ok := Clock(sec); [3]int{h, m, s} != want || !ok {
			t.Errorf("Clock(%d): %d, %d, %d, %v; want %v, true", sec, h, m, s, ok, want)
		}
		if n, ok := Second(want[0], want[1], want[2]); n != sec || !ok {
			t.Errorf("Second(%v): %d, %v; want %d, true", want, n, ok, sec)
		}
	}
}

// P4.1: each second of a day is the next one of the clock; each way back.
func TestEachSecondIsTheNextOfTheClock(t *testing.T) {
	sec := 0
	check := func(h, m, s int) {
		if hour, minute, second, ok := Clock(sec); hour != h || minute != m || second != s || !ok {
			t.Fatalf("Clock(%d): %d, %d, %d, %v; want %d, %d, %d, true", sec, hour, minute, second, ok, h, m, s)
		}
		if n, ok := Second(h, m, s); n != sec || !ok {
			t.Fatalf("Second(%d, %d, %d): %d, %v; want %d, true", h, m, s, n, ok, sec)
		}
		sec++
	}
	for h := range 24 {
		for m := range 60 {
			for s := range 60 {
				check(h, m, s)
			}
		}
	}
	check(23, 59, 60)
	if sec != api.Day+1 {
		t.Errorf("a day has %d seconds; want %d", sec, api.Day+1)
	}
}

// P4.1: seconds that are none of a day have no clock.
func TestClockOfWrongSeconds(t *testing.T) {
	for _, sec := range wrongSeconds() {
		if h, m, s, ok := Clock(sec); h != 0 || m != 0 || s != 0 || ok {
			t.Errorf("Clock(%d): %d, %d, %d, %v; want 0, 0, 0, false", sec, h, m, s, ok)
		}
	}
}

// P4.1: the sixty-first second of any other minute, and hours, minutes and seconds that are none, also where they would sum up to one.
func TestSecondOfWrongClocks(t *testing.T) {
	check := func(h, m, s int) {
		if n, ok := Second(h, m, s); n != 0 || ok {
			t.Errorf("Second(%d, %d, %d): %d, %v; want 0, false", h, m, s, n, ok)
		}
	}
	for h := range 24 {
		for m := range 60 {
			if h != 23 || m != 59 {
				check(h, m, 60)
			}
			for _, s := range []int{-1, -60, 61, 62, 3600, 86400, least, least + 1, 1 << 32, 1<<32 + 60, most, most - 1} {
				check(h, m, s)
			}
		}
	}
	hours := []int{-1, -23, -24, 24, 25, 47, 86400, least, least + 1, 1 << 32, 1<<32 + 23, most, most - 1}
	minutes := []int{-1, -59, -60, 60, 61, 119, 1440, least, least + 1, 1 << 32, 1<<32 + 59, most, most - 1}
	for _, s := range []int{-1, 0, 1, 59, 60, 61, least, most} {
		for _, h := range hours {
			for _, m := range append([]int{0, 1, 58, 59}, minutes...) {
				check(h, m, s)
			}
		}
		for _, m := range minutes {
			for _, h := range []int{0, 1, 22, 23} {
				check(h, m, s)
			}
		}
	}
}

// P4.2, P4.3: texts, written out, each way.
func TestTextsByHand(t *testing.T) {
	for want, x := range stamps() {
		if s, ok := Text(x[0], x[1]); s != want || !ok {
			t.Errorf("Text(%d, %d): %q, %v; want %q, true", x[0], x[1], s, ok, want)
		}
		if s, ok := Day(x[0]); s != want[:10] || !ok {
			t.Errorf("Day(%d): %q, %v; want %q, true", x[0], s, ok, want[:10])
		}
		if d, sec, ok := Parse(want); d != x[0] || sec != x[1] || !ok {
			t.Errorf("Parse(%q): %d, %d, %v; want %d, %d, true", want, d, sec, ok, x[0], x[1])
		}
	}
}

// P4.2: days without a date, and seconds that are none, have no text, also where the other is right.
func TestTextOfWrongNumbers(t *testing.T) {
	check := func(d, sec int) {
		if s, ok := Text(d, sec); s != "" || ok {
			t.Errorf("Text(%d, %d): %q, %v; want an empty one, false", d, sec, s, ok)
		}
	}
	for _, d := range wrongDays() {
		for _, sec := range append(wrongSeconds(), edgeSeconds()...) {
			check(d, sec)
		}
		if s, ok := Day(d); s != "" || ok {
			t.Errorf("Day(%d): %q, %v; want an empty one, false", d, s, ok)
		}
	}
	for _, d := range edgeDays() {
		for _, sec := range wrongSeconds() {
			check(d, sec)
		}
	}
}

// P4.3: dates and clocks that there are not, in the right shape.
func TestParseOfNoDateOrClock(t *testing.T) {
	for _, s := range []string{
		"0000-00-00T00:00:00Z", "0000-01-01T00:00:00Z", "0000-12-31T23:59:59Z", "0000-12-31T23:59:60Z",
		"2016-00-31T00:00:00Z", "2016-13-01T00:00:00Z", "2016-99-01T00:00:00Z", "2016-01-00T00:00:00Z", "2016-01-32T00:00:00Z", "2016-04-31T00:00:00Z", "2016-12-99T00:00:00Z",
		"2016-02-30T00:00:00Z", "2015-02-29T00:00:00Z", "1900-02-29T00:00:00Z", "2100-02-29T00:00:00Z", "0001-02-29T00:00:00Z", "9999-02-29T23:59:60Z",
		"2016-12-31T24:00:00Z", "2016-12-31T24:59:60Z", "2016-12-31T99:00:00Z", "2016-12-31T23:60:00Z", "2016-12-31T22:60:00Z", "2016-12-31T23:99:00Z",
		"2016-12-31T00:00:60Z", "2016-12-31T22:59:60Z", "2016-12-31T23:58:60Z", "2016-12-31T23:00:60Z", "2016-12-31T00:59:60Z", "2016-12-31T23:59:61Z", "2016-12-31T23:59:99Z", "2016-12-31T12:00:61Z",
		"9999-99-99T99:99:99Z",
	} {
		refuse(t, s)
	}
}

// P4.3: other shapes: empty, shorter, longer, with signs and blanks about.
func TestParseOfOtherShapes(t *testing.T) {
	for _, s := range []string{
		"", " ", "Z", "T", "0", "2016-12-31", "T23:59:60Z", "23:59:60", "2016-12-31T23:59:60", "2016-12-31T23:59Z", "2016-366T23:59:60Z",
		"2016-12-31T23:59:60+", "2016-12-31t23:59:60Z", "2016-12-31T23:59:60z", "2016-12-31 23:59:60Z", "2016/12/31T23:59:60Z", "2016-12-31T23-59-60Z", "2016:12:31T23:59:60Z",
		"+016-12-31T23:59:60Z", "-016-12-31T23:59:60Z", " 016-12-31T23:59:60Z", "2016-+1-31T23:59:60Z", "2016-1 -31T23:59:60Z", "2016- 1-31T23:59:60Z", "2016-12-31T-0:00:00Z", "2016-12-31T 1:00:00Z",
		"2016-1-031T23:59:60Z", "016-012-31T23:59:60Z", "20161-2-31T23:59:60Z", "2016--12-31T23:59:6Z", "20161231T23:59:60ZZZ", "+2016-12-31T23:59:59Z", "12016-12-31T23:59:59Z", "2016-12-31T23:59:59.0Z", "2_16-12-31T23:59:59Z",
		"0x16-12-31T23:59:59Z", "2016-1e-31T23:59:59Z", "2016-12-31T23:59:60Z\x00", "\x002016-12-31T23:59:60Z", strings.Repeat("0", 20), strings.Repeat("Z", 20), strings.Repeat("\x00", 20), strings.Repeat("2016-12-31T23:59:60Z", 1000),
	} {
		refuse(t, s)
	}
	for s := range stamps() {
		for k := range s {
			refuse(t, s[:k])
			refuse(t, s[k+1:])
			refuse(t, s[:k]+s[k+1:])
		}
		for k := 0; k <= len(s); k++ {
			for _, more := range []string{"0", "9", "-", ":", "T", "Z", " ", "+", "\n", "\x00", "\xff", "\u0663", s} {
				refuse(t, s[:k]+more+s[k:])
			}
		}
	}
}

// P4.3: each byte at each place: another kind is refused, and another digit is read as the library says.
func TestParseOfOneOtherByte(t *testing.T) {
	for s := range stamps() {
		for k := range s {
			for b := range 256 {
				u := s[:k] + string([]byte{byte(b)}) + s[k+1:]
				digit := s[k] >= '0' && s[k] <= '9'
				if byte(b) != s[k] && (!digit || b < '0' || b > '9') {
					refuse(t, u)
					continue
				}
				d, sec, ok := said(u)
				if day, second, is := Parse(u); day != d || second != sec || is != ok {
					t.Errorf("Parse(%q): %d, %d, %v; want %d, %d, %v", u, day, second, is, d, sec, ok)
				}
			}
		}
	}
}

// P4.3: signs of more than one byte, and bytes that are none of UTF-8, in the place of as many bytes and of one; among them digits of other scripts, and signs whose lowest byte is a digit or a mark.
func TestParseOfOtherSigns(t *testing.T) {
	signs := []string{
		"\u0130", "\u0131", "\u0139", "\u012d", "\u013a", "\u0154", "\u015a", "\u0660", "\u0663", "\u06f1", "\u07c0", "\u00b2", "\u00a0", "\u0080",
		"\u0966", "\u2010", "\u2212", "\u2079", "\u3007", "\ufeff", "\uff10", "\uff12", "\uff0d", "\uff1a", "\uff34", "\uff3a", "\ufffd", "\U00010030", "\U0001d7ce", "\U0001d7d8",
		"\x80", "\xbf", "\xc0", "\xc2", "\xe2", "\xf0", "\xff", "\xc0\xb0", "\xc0\xb1", "\xe0\x80\xb0", "\xf0\x80\x80\xb0", "\xed\xa0\x80", "\xf4\x90\x80\x80", "\xe2\x82", "\xff\xfe",
	}
	for _, s := range []string{"2016-12-31T23:59:60Z", "0001-01-01T00:00:00Z", "1111-11-11T11:11:11Z"} {
		for _, sign := range signs {
			for k := range s {
				refuse(t, s[:k]+sign+s[k+1:])
				if k+len(sign) <= len(s) {
					refuse(t, s[:k]+sign+s[k+len(sign):])
				}
			}
			refuse(t, strings.Repeat(sign, 20))
			refuse(t, strings.Repeat(sign, 20/len(sign)))
		}
	}
}

// P4.4: all days, with edges of seconds: a text is twenty bytes, as the library writes it, comes back, and is greater than the one ahead of it.
func TestTextsOfAllDays(t *testing.T) {
	last := ""
	for d := api.MinDay; d <= api.MaxDay; d++ {
		date, ok := Day(d)
		if d%97 == 0 || d < api.MinDay+1000 || d > api.MaxDay-1000 {
			if want := time.Unix(int64(d)*api.Day, 0).UTC().Format("2006-01-02"); date != want || !ok {
				t.Fatalf("Day(%d): %q, %v; want %q, true", d, date, ok, want)
			}
		}
		for _, sec := range []int{0, 86399, 86400} {
			last = follows(t, last, d, sec)
			if last[:10] != date || len(date) != 10 {
				t.Fatalf("Day(%d): %q; want the first ten bytes of %q", d, date, last)
			}
		}
	}
}

// P4.4: all seconds, on edges of days.
func TestTextsOfAllSeconds(t *testing.T) {
	last := ""
	for _, d := range edgeDays() {
		for sec := 0; sec <= api.Day; sec++ {
			last = follows(t, last, d, sec)
			if sec%61 == 0 && sec < api.Day {
				if want := time.Unix(int64(d)*api.Day+int64(sec), 0).UTC().Format("2006-01-02T15:04:05Z"); last != want {
					t.Fatalf("Text(%d, %d): %q; want %q", d, sec, last, want)
				}
			}
		}
	}
}

// follows tells the text of a day and a second, and fails where it is not twenty bytes, not greater than the last one, or not read as what it was written of.
func follows(t *testing.T, last string, d, sec int) string {
	t.Helper()
	s, ok := Text(d, sec)
	if len(s) != 20 || !ok {
		t.Fatalf("Text(%d, %d): %q, %v; want twenty bytes, true", d, sec, s, ok)
	}
	if s <= last {
		t.Fatalf("Text(%d, %d): %q; want a greater one than %q", d, sec, s, last)
	}
	if day, second, ok := Parse(s); day != d || second != sec || !ok {
		t.Fatalf("Parse(%q): %d, %d, %v; want %d, %d, true", s, day, second, ok, d, sec)
	}
	return s
}

// P4.4: of any days and seconds the texts are in the same order.
func TestTextsAreInTheirOrder(t *testing.T) {
	type stamp struct{ d, sec int }
	var all []stamp
	for _, d := range edgeDays() {
		for _, sec := range edgeSeconds() {
			all = append(all, stamp{d, sec})
		}
	}
	for _, a := range all {
		s, _ := Text(a.d, a.sec)
		for _, b := range all {
			u, _ := Text(b.d, b.sec)
			less := a.d < b.d || a.d == b.d && a.sec < b.sec
			if (s < u) != less || (s == u) != (a == b) {
				t.Fatalf("%v is %q, and %v is %q: another order", a, s, b, u)
			}
		}
	}
}
