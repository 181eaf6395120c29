package record

import (
	"fmt"
	"math/big"
	"math/rand"
	"slices"
	"sync"
	"testing"
	"time"

	"epact/api"
	"epact/leap"
)

const (
	most  = api.MaxInt
	least = api.MinInt

	gap        = 2419199
	lastSecond = 253402300799 // of the year 9999
)

// table tells a table of leaps: of days, 1, but those below 0, which are of -1.
func table(days ...int) api.Table {
	var t api.Table
	for _, d := range days {
		l := api.Leap{Day: d, Step: 1}
		if d < 0 {
			l = api.Leap{Day: -d, Step: -1}
		}
		t.Leaps = append(t.Leaps, l)
	}
	return t
}

// until tells t with an expiry.
func until(t api.Table, p int) api.Table {
	t.Has, t.Expires = true, p
	return t
}

// rolled tells t with one of its leaps as a leap of local time.
func rolled(t api.Table, k int) api.Table {
	t.Leaps = slices.Clone(t.Leaps)
	t.Leaps[k].Roll = true
	return t
}

// isEnd tells by the library's calendar whether the day behind d begins a month.
func isEnd(d int) bool {
	return time.Unix(int64(d+1)*86400, 0).UTC().Day() == 1
}

// monthEnds tells the first n days from d on that are the last of their month.
func monthEnds(d, n int) []int {
	var all []int
	for ; len(all) < n; d++ {
		if isEnd(d) {
			all = append(all, d)
		}
	}
	return all
}

// mixed tells a right table of n leaps, every third one of which is removed.
func mixed(d, n int) api.Table {
	t := table(monthEnds(d, n)...)
	for k := range t.Leaps {
		if k%3 == 1 {
			t.Leaps[k].Step = -1
		}
	}
	return t
}

// removed tells a right table of n leaps, all of them removed, each month.
func removed(d, n int) api.Table {
	t := table(monthEnds(d, n)...)
	for k := range t.Leaps {
		t.Leaps[k].Step = -1
	}
	return t
}

// published tells the leaps of 1972 to 2016.
func published() api.Table {
	return table(911, 1095, 1460, 1825, 2190, 2556, 2921, 3286, 3651, 4198, 4563, 4928, 5659, 6573, 7304, 7669, 8216, 8581, 8946, 9495, 10042, 10591, 13148, 14244, 15521, 16616, 17166)
}

// endOf tells the POSIX second behind the last leap of t, from which on it may expire.
func endOf(t api.Table) int {
	n := len(t.Leaps)
	if n == 0 {
		return 63072000
	}
	return (t.Leaps[n-1].Day + 1) * 86400
}

// someTables tells right tables without leaps of local time: without leaps, with one, with many, of both Steps, each with an expiry at its edges and without.
func someTables() []api.Table {
	var all []api.Table
	for _, t := range []api.Table{
		{},
		{Leaps: []api.Leap{}},
		table(911),
		table(-911),
		table(760),
		table(-760),
		table(2932865),
		table(-760, 2932865),
		table(911, 1095),
		table(911, 1095, -1460, -1825),
		table(-911, -1095, 1460, 1825, 1856, -1884),
		table(789, 820),
		published(),
		mixed(730, 2), mixed(730, 3), mixed(800, 7), mixed(730, 8), mixed(730, 199), mixed(730, 200),
		removed(730, 200),
		table(monthEnds(730, 200)...),
		mixed(2926000, 200),
		removed(2926000, 200),
	} {
		all = append(all, t)
		for _, p := range []int{endOf(t), endOf(t) + 1, endOf(t) + 86400*100, lastSecond - 1, lastSecond} {
			all = append(all, until(t, min(p, lastSecond)))
		}
	}
	return all
}

// row tells a row of records: an At and a Corr by turns.
func row(n ...int) []api.Corr {
	var l []api.Corr
	for k := 0; k < len(n); k += 2 {
		l = append(l, api.Corr{At: n[k], Corr: n[k+1]})
	}
	return l
}

// rising tells a right row of n records, each of which is one more than that ahead, as near as they may be.
func rising(n int) []api.Corr {
	var l []api.Corr
	for k := range n {
		l = append(l, api.Corr{At: k * gap, Corr: k + 1})
	}
	return l
}

// with tells l and one record more, in memory of its own.
func with(l []api.Corr, at, corr int) []api.Corr {
	return append(slices.Clone(l), api.Corr{At: at, Corr: corr})
}

// equal holds two rows against each other, field by field.
func equal(a, b []api.Corr) bool {
	if len(a) != len(b) {
		return false
	}
	for k := range a {
		if a[k].At != b[k].At || a[k].Corr != b[k].Corr {
			return false
		}
	}
	return true
}

// clone tells t in memory of its own.
func clone(t api.Table) api.Table {
	t.Leaps = slices.Clone(t.Leaps)
	return t
}

// brief tells the text of x, or what it begins with.
func brief(x any) string {
	return fmt.Sprintf("%.200s", fmt.Sprint(x))
}

func checkRecords(t *testing.T, x api.Table, want []api.Corr, ok bool) {
	t.Helper()
	had := clone(x)
	if l, is := Records(x); is != ok || !equal(l, want) {
		t.Errorf("Records of %s: %s, %t; want %s, %t", brief(x), brief(l), is, brief(want), ok)
	}
	if !leap.Same(x, had) {
		t.Errorf("%s was changed", brief(had))
	}
}

func checkCheck(t *testing.T, l []api.Corr, at int, want api.Errno) {
	t.Helper()
	had := slices.Clone(l)
	if k, e := Check(l); k != at || e != want {
		t.Errorf("Check of %s: %d, %d; want %d, %d", brief(l), k, e, at, want)
	}
	if ok := Right(l); ok != (want == 0) {
		t.Errorf("Right of %s: %t, where the error is %d", brief(l), ok, want)
	}
	if !equal(l, had) {
		t.Errorf("%s was changed", brief(had))
	}
}

func checkExpiry(t *testing.T, l []api.Corr, at int, ok bool) {
	t.Helper()
	if n, is := Expiry(l); n != at || is != ok {
		t.Errorf("Expiry of %s: %d, %t; want %d, %t", brief(l), n, is, at, ok)
	}
}

func checkLookups(t *testing.T, l []api.Corr, at, sum, step int) {
	t.Helper()
	if n := Sum(l, at); n != sum {
		t.Errorf("Sum of %s, %d: %d; want %d", brief(l), at, n, sum)
	}
	if n := Step(l, at); n != step {
		t.Errorf("Step of %s, %d: %d; want %d", brief(l), at, n, step)
	}
}

func checkTable(t *testing.T, l []api.Corr, want api.Table, ok bool) {
	t.Helper()
	had := slices.Clone(l)
	if x, is := Table(l); is != ok || !leap.Same(x, want) {
		t.Errorf("Table of %s: %s, %t; want %s, %t", brief(l), brief(x), is, brief(want), ok)
	}
	if !equal(l, had) {
		t.Errorf("%s was changed", brief(had))
	}
}

// checkNoTable asks that a row that is right, or is not, is no table's.
func checkNoTable(t *testing.T, l []api.Corr, right bool) {
	t.Helper()
	if Right(l) != right {
		t.Errorf("Right of %s: %t", brief(l), !right)
	}
	checkTable(t, l, api.Table{}, false)
}

func checkSame(t *testing.T, a, b []api.Corr, want bool) {
	t.Helper()
	if got := Same(a, b); got != want {
		t.Errorf("Same of %s and %s: %t", brief(a), brief(b), got)
	}
	if got := Same(b, a); got != want {
		t.Errorf("Same of %s and %s: %t", brief(b), brief(a), got)
	}
}

// P12.1, P12.4: written out: the chapter's example.
func TestExample(t *testing.T) {
	x, l := table(911, 1095), row(78796800, 1, 94694401, 2)
	checkRecords(t, x, l, true)
	checkCheck(t, l, 2, 0)
	checkTable(t, l, x, true)
}

// P12.1: written out: tables without leaps, of leaps of both Steps, with and without an expiry.
func TestRecordsByHand(t *testing.T) {
	four := table(911, 1095, -1460, -1825)
	for _, one := range []struct {
		t    api.Table
		want []api.Corr
	}{
		{api.Table{}, nil},
		{api.Table{Leaps: []api.Leap{}}, nil},
		{until(api.Table{}, 63072000), row(63072000, 0)},
		{until(api.Table{}, 63072001), row(63072001, 0)},
		{until(api.Table{}, lastSecond), row(lastSecond, 0)},
		{table(911), row(78796800, 1)},
		{table(-911), row(78796799, -1)},
		{until(table(911), 78796800), row(78796800, 1, 78796801, 1)},
		{until(table(911), 78796801), row(78796800, 1, 78796802, 1)},
		{until(table(-911), 78796800), row(78796799, -1, 78796799, -1)},
		{until(table(-911), 78796801), row(78796799, -1, 78796800, -1)},
		{until(table(-911), lastSecond), row(78796799, -1, lastSecond-1, -1)},
		{four, row(78796800, 1, 94694401, 2, 126230401, 1, 157766400, 0)},
		{until(four, 157766400), row(78796800, 1, 94694401, 2, 126230401, 1, 157766400, 0, 157766400, 0)},
		{until(four, lastSecond), row(78796800, 1, 94694401, 2, 126230401, 1, 157766400, 0, lastSecond, 0)},
		{table(-911, -1095, -1460), row(78796799, -1, 94694398, -2, 126230397, -3)},
		{until(table(-911, 1095), 94694400), row(78796799, -1, 94694399, 0, 94694400, 0)},
		{table(2932865), row(253399622400, 1)},
		{until(table(2932865), lastSecond), row(253399622400, 1, lastSecond+1, 1)},
		// From the last of January to the last of February there are 28 days: no two leaps are nearer.
		{table(760, 760+29), row(65750400, 1, 68256001, 2)},
		{table(1126, 1154), row(97372800, 1, 99792001, 2)},
		{table(1126, -1154), row(97372800, 1, 99792000, 0)},
		{table(-1126, 1154), row(97372799, -1, 99791999, 0)},
		{table(-1126, -1154), row(97372799, -1, 99791998, -2)},
	} {
		checkRecords(t, one.t, one.want, true)
		checkCheck(t, one.want, len(one.want), 0)
		checkTable(t, one.want, one.t, true)
	}
}

// P12.1: written out: the last records of the leaps of 1972 to 2016, with an expiry.
func TestRecordsOfThePublished(t *testing.T) {
	l, ok := Records(until(published(), 1782604800))
	if !ok || len(l) != 28 {
		t.Fatalf("%v, %t", l, ok)
	}
	want := row(1341100824, 25, 1435708825, 26, 1483228826, 27, 1782604827, 27)
	if !equal(l[24:], want) {
		t.Errorf("%v; want %v", l[24:], want)
	}
}

// begin tells how many seconds there are from the first of 1970 to the day d, those of each day as many as it has.
func begin(t api.Table, d int) int {
	n := d * 86400
	for _, l := range t.Leaps {
		if l.Day < d {
			n += l.Step
		}
	}
	return n
}

// slowRecords is another way to Records, of right tables without leaps of local time: by the seconds that a day has.
func slowRecords(t api.Table) []api.Corr {
	var l []api.Corr
	for _, one := range t.Leaps {
		// The inserted second is the one numbered 86400 of its day; a shortened day has but 86399 of them.
		length := begin(t, one.Day+1) - begin(t, one.Day)
		at := begin(t, one.Day) + min(length, 86400)
		l = append(l, api.Corr{At: at, Corr: begin(t, one.Day+1) - (one.Day+1)*86400})
	}
	if t.Has {
		d := t.Expires / 86400
		l = append(l, api.Corr{At: begin(t, d) + t.Expires%86400, Corr: begin(t, d) - d*86400})
	}
	return l
}

// P12.1: of many tables, of 200 leaps too, each with an expiry at its edges and without.
func TestRecordsOfMany(t *testing.T) {
	for _, x := range someTables() {
		checkRecords(t, x, slowRecords(x), true)
	}
}

// P12.1: each end of a month that may have a leap, of both Steps, alone and behind another one.
func TestRecordsOfEachEnd(t *testing.T) {
	for d := 731; d <= 2932895; d++ {
		if !isEnd(d) {
			continue
		}
		l, ok := Records(table(d))
		m, is := Records(table(-d))
		if !ok || !is || !equal(l, row(86400*d+86400, 1)) || !equal(m, row(86400*d+86399, -1)) {
			t.Fatalf("the day %d: %v, %v", d, l, m)
		}
		if d == 760 {
			continue
		}
		l, ok = Records(table(760, d))
		m, is = Records(table(-760, -d))
		if !ok || !is || !equal(l[1:], row(86400*d+86401, 2)) || !equal(m[1:], row(86400*d+86398, -2)) {
			t.Fatalf("the day %d behind 760: %v, %v", d, l, m)
		}
	}
}

// P12.1: a table with a leap of local time, whichever it is, has no records.
func TestRecordsWithARoll(t *testing.T) {
	for _, x := range someTables() {
		for _, k := range []int{0, len(x.Leaps) / 2, len(x.Leaps) - 1} {
			if k >= 0 && k < len(x.Leaps) {
				checkRecords(t, rolled(x, k), nil, false)
			}
		}
	}
	checkRecords(t, rolled(rolled(table(911, -1095), 0), 1), nil, false)
}

// P12.1: nor has a table of which anything is wrong.
func TestRecordsOfWrongTables(t *testing.T) {
	odd := func(t api.Table, p int) api.Table {
		t.Expires = p
		return t
	}
	for _, x := range []api.Table{
		table(monthEnds(730, 201)...),
		until(table(monthEnds(730, 201)...), lastSecond),
		table(912), table(730), table(699), table(30), table(2932896), table(most), table(-most), table(0),
		table(911, 911), table(1095, 911), table(911, -911), table(911, 1095, 912),
		{Leaps: []api.Leap{{Day: 911}}},
		{Leaps: []api.Leap{{Day: 911, Step: 2}}},
		{Leaps: []api.Leap{{Day: 911, Step: 1}, {Day: 1095, Step: -2}}},
		{Leaps: []api.Leap{{Day: least, Step: least}, {Day: most, Step: most}}},
		until(api.Table{}, 63071999), until(api.Table{}, 0), until(api.Table{}, lastSecond+1), until(api.Table{}, most), until(api.Table{}, least),
		until(table(911), 78796799), until(table(-911), 78796799), until(table(911), lastSecond+1), until(table(911), most),
		odd(api.Table{}, 1), odd(api.Table{}, -1), odd(table(911), 78796800), odd(table(911), most), odd(api.Table{}, least),
	} {
		checkRecords(t, x, nil, false)
	}
}

// P12.2: written out: none, one of each kind, and some with an expiry.
func TestCheckByHand(t *testing.T) {
	for _, one := range []struct {
		l    []api.Corr
		at   int
		want api.Errno
	}{
		{nil, 0, 0},
		{[]api.Corr{}, 0, 0},
		{make([]api.Corr, 0, 4), 0, 0},
		{row(5, 1), 1, 0},
		{row(5, -1), 1, 0},
		{row(5, 0), 1, 0},
		{row(0, 1), 1, 0},
		{row(0, -1), 1, 0},
		{row(0, 0), 1, 0},
		{row(-1, 1), 0, 9},
		{row(-1, -1), 0, 9},
		{row(-1, 0), 0, 9},
		{row(5, 2), 0, 6},
		{row(5, -2), 0, 6},
		{row(5, 0, 5, 0), 0, 6},
		{row(5, 0, 5+gap, 1), 0, 6},
		{row(5, 0, 5+gap, -1), 0, 6},
		{row(5, 1, 5+gap, 2), 2, 0},
		{row(5, 1, 5+gap, 0), 2, 0},
		{row(5, -1, 5+gap, -2), 2, 0},
		{row(5, -1, 5+gap, 0), 2, 0},
		{row(5, 1, 4+gap, 2), 1, 7},
		{row(5, 1, 4+gap, 0), 1, 7},
		{row(5, -1, 4+gap, -2), 1, 7},
		{row(5, 1, 5, 2), 1, 7},
		{row(5, 1, 4, 2), 1, 7},
		{row(5, 1, 0, 0), 1, 7},
		{row(5, 1, -1, 2), 1, 9},
		{row(5, 1, 5, 1), 2, 0},
		{row(5, 1, 6, 1), 2, 0},
		{row(5, 1, 4, 1), 1, 7},
		{row(5, 1, 0, 1), 1, 7},
		{row(5, 1, -1, 1), 1, 9},
		{row(0, 1, 0, 1), 2, 0},
		{row(0, 1, -1, 1), 1, 9},
		{row(5, -1, 5, -1), 2, 0},
		{row(5, -1, 4, -1), 1, 7},
		{row(5, 1, 5+gap, 3), 1, 6},
		{row(5, 1, 5+gap, -1), 1, 6},
		{row(5, 1, 5+gap, -2), 1, 6},
		{row(5, -1, 5+gap, 1), 1, 6},
		{row(5, 1, 5+gap, 0, 5+gap, 0), 3, 0},
		{row(5, 1, 5+gap, 0, 4+gap, 0), 2, 7},
		{row(5, 1, 5+gap, 0, 5+2*gap, -1), 3, 0},
		{row(5, 1, 6, 1, 7, 1), 1, 6},
		{row(5, 1, 5+gap, 1, 5+2*gap, 2), 1, 6},
		{row(5, 1, 5+gap, 2, 5+2*gap, 2, 5+3*gap, 2), 2, 6},
		{row(5, 1, 5+gap, 2, 5+2*gap, 2), 3, 0},
		{row(5, 1, 5+gap, 2, 5+gap, 3), 2, 7},
	} {
		checkCheck(t, one.l, one.at, one.want)
	}
}

// P12.2: the greatest number of records and one less; one too many is told at its place, whatever it is and whatever is behind it.
func TestHowMany(t *testing.T) {
	for _, n := range []int{1, 2, 127, 128, 199, 200, 201} {
		l := rising(n)
		checkCheck(t, l, n, 0)
		// An expiry in place of the last record: there may be as many of both together.
		checkCheck(t, with(l[:n-1], l[n-1].At, n-1), n, 0)
		if n < 201 {
			checkCheck(t, with(l, l[n-1].At, n), n+1, 0)
		}
	}
	for _, n := range []int{202, 203, 256, 400, 1000} {
		checkCheck(t, rising(n), 201, 8)
	}
	full := rising(201)
	for _, at := range []int{201 * gap, 200 * gap, 200*gap + 1, 0, -1, most, least} {
		for _, corr := range []int{202, 201, 200, 203, 0, most, least} {
			checkCheck(t, with(full, at, corr), 201, 8)
		}
	}
}

// P12.2: nothing goes round, of Ats and Corrs at the ends of numbers, nor of those that are the same but for bits far up.
func TestCheckAtTheEndsOfNumbers(t *testing.T) {
	for _, at := range []int{0, 1, 911, 1 << 32, most - gap, most - 1, most} {
		for _, corr := range []int{1, -1, 0} {
			checkCheck(t, row(at, corr), 1, 0)
		}
		for _, corr := range []int{2, -2, 255, 256, 257, 1<<32 + 1, 1<<32 - 1, 1 << 32, -1<<32 + 1, -1 << 32, most, most - 1, least, least + 1} {
			checkCheck(t, row(at, corr), 0, 6)
		}
	}
	for _, at := range []int{-1, -2, -gap, -1 << 32, least, least + 1, least + gap} {
		for _, corr := range []int{1, -1, 0, 2, most, least} {
			checkCheck(t, row(at, corr), 0, 9)
			checkCheck(t, row(5, 1, at, corr), 1, 9)
			checkCheck(t, row(most, -1, at, corr), 1, 9)
		}
	}
	for _, first := range []int{1, -1} {
		for _, corr := range []int{most, most - 1, most - 2, least, least + 1, least + 2, 1<<32 + first + 1, 1<<32 + first, 1<<32 + first - 1} {
			checkCheck(t, row(5, first, 5+gap, corr), 1, 6)
			checkCheck(t, row(5, first, most, corr), 1, 6)
		}
		checkCheck(t, row(0, first, most, first+1), 2, 0)
		checkCheck(t, row(0, first, most, first), 2, 0)
		checkCheck(t, row(most-gap, first, most, first-1), 2, 0)
		checkCheck(t, row(most-gap+1, first, most, first-1), 1, 7)
		checkCheck(t, row(most, first, most, first), 2, 0)
		checkCheck(t, row(most, first, most-1, first), 1, 7)
		checkCheck(t, row(most, first, 0, first), 1, 7)
		checkCheck(t, row(most, first, 0, first+1), 1, 7)
		checkCheck(t, row(5, first, 1<<32+4, first+1), 2, 0)
		checkCheck(t, row(1<<32+5, first, 5+gap, first+1), 1, 7)
	}
}

// P12.2: each gap near the least one, and each difference of Corrs, in the middle and at the end.
func TestGapsAndSteps(t *testing.T) {
	ahead := row(7, 1, 7+gap, 2, 7+2*gap, 1)
	last := ahead[2]
	for _, far := range []int{-1, 0, 1, gap - 86400, gap - 2, gap - 1, gap, gap + 1, gap + 86400} {
		for differ := -4; differ <= 4; differ++ {
			l := with(ahead, last.At+far, last.Corr+differ)
			isStep, nearest := differ == 1 || differ == -1, gap
			if differ == 0 {
				nearest = 0
			}
			switch {
			case !isStep && differ != 0:
				checkCheck(t, l, 3, 6)
			case far < nearest:
				checkCheck(t, l, 3, 7)
			default:
				checkCheck(t, l, 4, 0)
			}
			behind := with(l, last.At+far+gap, last.Corr+differ+1)
			switch {
			case !isStep:
				checkCheck(t, behind, 3, 6)
			case far < gap:
				checkCheck(t, behind, 3, 7)
			default:
				checkCheck(t, behind, 5, 0)
			}
		}
	}
}

// errorOf tells the first error of these, as the chapter orders them.
func errorOf(tooMany, below, wrongStep, tooNear bool) api.Errno {
	for k, is := range []bool{tooMany, below, wrongStep, tooNear} {
		if is {
			return []api.Errno{8, 9, 6, 7}[k]
		}
	}
	return 0
}

// P12.2: all errors together, and each choice of them that may be: the first one named is told, of the last record and of one with others behind it.
func TestFirstErrorOfARecord(t *testing.T) {
	for choice := range 16 {
		tooMany, below, wrongStep, tooNear := choice&1 != 0, choice&2 != 0, choice&4 != 0, choice&8 != 0
		if below && !tooNear {
			// What is below 0 is too near each record that is not.
			continue
		}
		n := 3
		if tooMany {
			n = 201
		}
		l := rising(n)
		one := api.Corr{At: n * gap, Corr: n + 1}
		if wrongStep {
			one.Corr++
		}
		if tooNear {
			one.At--
		}
		if below {
			one.At = -1
		}
		l = append(l, one)
		at, want := n, errorOf(tooMany, below, wrongStep, tooNear)
		if want == 0 {
			at++
		}
		checkCheck(t, l, at, want)
		if want != 0 {
			checkCheck(t, with(with(l, -5, 99), 0, 0), at, want)
			checkCheck(t, with(l, one.At+gap, one.Corr+1), at, want)
		}
	}
}

// P12.2: of several wrong records the first one from the front is told, though the error of another is named earlier.
func TestFirstRecordOfSeveral(t *testing.T) {
	spoil := []struct {
		as   func(l []api.Corr, k int)
		want api.Errno
	}{
		{func(l []api.Corr, k int) { l[k].At = -1 }, 9},
		{func(l []api.Corr, k int) { l[k].Corr += 5 }, 6},
		{func(l []api.Corr, k int) { l[k].Corr = l[k-1].Corr }, 6},
		{func(l []api.Corr, k int) { l[k].At-- }, 7},
		{func(l []api.Corr, k int) { l[k].At = l[k-1].At }, 7},
	}
	for _, n := range []int{5, 201, 203} {
		for _, first := range spoil {
			for _, second := range spoil {
				for _, at := range []int{1, 2, n / 2} {
					l := rising(n)
					second.as(l, n-1)
					first.as(l, at)
					checkCheck(t, l, at, first.want)
				}
			}
		}
	}
}

// P12.3: written out: rows with an expiry and without.
func TestExpiryByHand(t *testing.T) {
	for _, l := range [][]api.Corr{nil, {}, make([]api.Corr, 0, 3), row(5, 1), row(0, -1), row(most, 1), row(5, 1, 5+gap, 0), row(5, 1, 5+gap, 2, 5+2*gap, 1), rising(201)} {
		checkExpiry(t, l, 0, false)
	}
	for _, l := range [][]api.Corr{row(0, 0), row(5, 0), row(most, 0), row(5, 1, 5, 1), row(5, -1, 6, -1), row(5, 1, most, 1), row(5, 1, 5+gap, 0, 5+gap, 0), with(rising(200), 200*gap, 200)} {
		checkExpiry(t, l, l[len(l)-1].At, true)
	}
}

// P12.3: written out: ahead of all records, at each one and beside it, at the expiry, and at the ends of numbers.
func TestLookupsByHand(t *testing.T) {
	four := row(78796800, 1, 94694401, 2, 126230401, 1, 157766400, 0)
	for at, want := range map[int][2]int{
		least: {0, 0}, least + 1: {0, 0}, -78796800: {0, 0}, -1: {0, 0}, 0: {0, 0}, 1: {0, 0},
		78796799: {0, 0}, 78796800: {1, 1}, 78796801: {1, 0},
		94694400: {1, 0}, 94694401: {2, 1}, 94694402: {2, 0},
		126230400: {2, 0}, 126230401: {1, -1}, 126230402: {1, 0},
		157766399: {1, 0}, 157766400: {0, -1}, 157766401: {0, 0},
		1<<32 + 94694401: {0, 0}, most - 1: {0, 0}, most: {0, 0},
	} {
		checkLookups(t, four, at, want[0], want[1])
		// An expiry changes neither, though it has a Corr and may stand where the last leap does.
		for _, p := range []int{157766400, 157766401, 157766402, 1<<32 + 94694401, most} {
			checkLookups(t, with(four, p, 0), at, want[0], want[1])
		}
	}
	for at, want := range map[int][2]int{least: {0, 0}, -1: {0, 0}, 0: {-1, -1}, 1: {-1, 0}, gap - 1: {-1, 0}, gap: {-2, -1}, gap + 1: {-2, 0}, most: {-2, 0}} {
		checkLookups(t, row(0, -1, gap, -2), at, want[0], want[1])
		checkLookups(t, row(0, -1, gap, -2, gap, -2), at, want[0], want[1])
		checkLookups(t, row(0, -1, gap, -2, gap+1, -2), at, want[0], want[1])
	}
	for at, want := range map[int][2]int{least: {0, 0}, -1: {0, 0}, 0: {0, 0}, most - gap - 1: {0, 0}, most - gap: {1, 1}, most - gap + 1: {1, 0}, most - 1: {1, 0}, most: {2, 1}} {
		checkLookups(t, row(most-gap, 1, most, 2), at, want[0], want[1])
		checkLookups(t, row(most-gap, 1, most, 2, most, 2), at, want[0], want[1])
	}
}

// P12.3: without leaps, with an expiry and without, there is no sum and no step.
func TestLookupsOfNone(t *testing.T) {
	for _, l := range [][]api.Corr{nil, {}, make([]api.Corr, 0, 4), row(0, 0), row(5, 0), row(63072000, 0), row(most, 0)} {
		for _, at := range []int{least, -1, 0, 1, 4, 5, 6, 63071999, 63072000, 63072001, most - 1, most} {
			checkLookups(t, l, at, 0, 0)
		}
	}
}

// slowLookups is another way to Expiry, Sum and Step: one record behind the other, each by how much it differs.
func slowLookups(l []api.Corr, at int) (expires int, has bool, sum, step int) {
	ahead := 0
	for _, one := range l {
		differs := one.Corr - ahead
		ahead = one.Corr
		if differs == 0 {
			expires, has = one.At, true
		}
		if one.At <= at {
			sum += differs
		}
		if one.At == at {
			step += differs
		}
	}
	return expires, has, sum, step
}

func checkSlowLookups(t *testing.T, l []api.Corr, at int) {
	t.Helper()
	expires, has, sum, step := slowLookups(l, at)
	checkExpiry(t, l, expires, has)
	checkLookups(t, l, at, sum, step)
}

// someRows tells right rows: those of tables, and others.
func someRows() [][]api.Corr {
	all := [][]api.Corr{nil, {}, row(0, 1), row(0, 0), row(most, -1), row(5, 1, 5, 1), row(5, 1, 5+gap, 0, most, -1), rising(201), with(rising(200), 199*gap, 200), row(most-gap, 1, most, 2)}
	for _, t := range someTables() {
		all = append(all, slowRecords(t))
	}
	return all
}

// P12.3: at each record of many rows, beside it, and far out.
func TestLookupsOfMany(t *testing.T) {
	for _, l := range someRows() {
		ats := []int{least, least + 1, -1 << 32, -1, 0, 1, 63072000, 1 << 32, most - 1, most}
		for _, one := range l {
			ats = append(ats, one.At, max(one.At, 1)-1, min(one.At, most-1)+1, -one.At, min(one.At, 1<<40)+1<<32, one.At/2)
		}
		for _, at := range ats {
			checkSlowLookups(t, l, at)
		}
	}
}

// P12.3: of rows of each length up to the greatest one, at each place.
func TestLookupsOfEachLength(t *testing.T) {
	whole := rising(201)
	for n := range 202 {
		l := whole[:n:n]
		for k := range whole {
			step := 0
			if k < n {
				step = 1
			}
			checkLookups(t, l, k*gap, min(k+1, n), step)
			checkLookups(t, l, k*gap+1, min(k+1, n), 0)
			checkLookups(t, l, k*gap-1, min(k, n), 0)
		}
	}
}

// P12.4, P12.6: the records of each table are right, and tell the table; and the table tells the records.
func TestTablesAndRecordsAreEachOthers(t *testing.T) {
	for _, x := range someTables() {
		l, ok := Records(x)
		if !ok {
			t.Fatalf("no records of %s", brief(x))
		}
		checkCheck(t, l, len(l), 0)
		checkTable(t, l, x, true)
		y, _ := Table(l)
		checkRecords(t, y, l, true)
		if at, has := Expiry(l); has != x.Has || has && at != x.Expires+l[len(l)-1].Corr {
			t.Errorf("%s: it expires at %d, %t", brief(x), at, has)
		}
		for _, one := range x.Leaps {
			if n := Sum(l, begin(x, one.Day+1)); n != leap.Total(x, one.Day+1) {
				t.Errorf("%s: behind the day %d its records' Sum is %d", brief(x), one.Day, n)
			}
		}
	}
}

// P12.6: no two tables have the same records, but those that are the same.
func TestRecordsTellTablesApart(t *testing.T) {
	all := someTables()
	rows := make([][]api.Corr, len(all))
	for k, x := range all {
		rows[k], _ = Records(x)
	}
	for i, a := range all {
		for k, b := range all {
			if Same(rows[i], rows[k]) != leap.Same(a, b) {
				t.Errorf("%s and %s: their records are %s and %s", brief(a), brief(b), brief(rows[i]), brief(rows[k]))
			}
		}
	}
}

// P12.4: written out: right rows whose leaps are at no end of a month, or whose expiry is out of what may be.
func TestTableOfOtherRightRows(t *testing.T) {
	for _, l := range [][]api.Corr{
		// An At that is no end of a day.
		row(78796801, 1), row(78796799, 1), row(78796800, -1), row(78796798, -1), row(78796800+43200, 1),
		row(78796800, 1, 94694400, 2), row(78796800, 1, 94694402, 2), row(78796800, 1, 94694401, 0), row(78796800, 1, 94694399, 0),
		row(78796799, -1, 94694399, -2), row(78796799, -1, 94694397, -2), row(78796799, -1, 94694400, 0), row(78796799, -1, 94694398, 0),
		// One that is no end of a month.
		row(78796800+86400, 1), row(78796800-86400, 1), row(78796799+86400, -1), row(78796800, 1, 94694401-86400, 2),
		// A record ahead of the Anchor: the last day of 1971, of the first January, of 1969, and no day.
		row(63072000, 1), row(63071999, -1), row(2678400, 1), row(2678399, -1), row(0, 1), row(0, -1), row(1, 1), row(86400, 1), row(86399, -1),
		row(63072000, 1, 78796801, 2), row(2678400, 1, 2678400+gap, 2),
		// Records too near each other for two ends of months, though not for records.
		row(78796800, 1, 78796800+gap, 2), row(78796800, 1, 78796800+gap, 0), row(78796799, -1, 78796799+gap, -2),
		row(97372800, 1, 97372800+gap, 2), row(97372800, 1, 97372800+gap+1, 2), row(97372800, 1, 97372800+gap, 0),
		// A leap at the end of the last day that has a number, and behind it.
		row(253402300800, 1), row(253402300799, -1), row(253404979200, 1), row(most, 1), row(most, -1), row(most-1, 1), row(most/86400*86400, 1),
		row(0, 1, most, 2), row(0, -1, most, -2), row(78796800, 1, most, 0), row(78796799, -1, most, 0),
	} {
		checkNoTable(t, l, true)
		checkNoTable(t, with(l, l[len(l)-1].At, l[len(l)-1].Corr), true)
		checkNoTable(t, with(l, min(l[len(l)-1].At, most-86400)+86400, l[len(l)-1].Corr), true)
	}
	for _, l := range [][]api.Corr{
		// An expiry too early.
		row(0, 0), row(5, 0), row(63071999, 0), row(78796800, 1, 78796800, 1), row(78796800, 1, 94694401, 2, 94694401, 2),
		// One too late.
		row(lastSecond+1, 0), row(78796800, 1, lastSecond+2, 1), row(78796799, -1, lastSecond, -1), row(most, 0), row(most-1, 0), row(78796800, 1, most, 1), row(78796799, -1, most, -1),
	} {
		checkNoTable(t, l, true)
	}
}

// P12.4: an expiry at its edges, and a second out of them.
func TestTableOfExpiries(t *testing.T) {
	for _, x := range []api.Table{{}, table(911), table(-911), table(911, 1095), table(911, -1095), table(-911, -1095), published(), mixed(730, 200), removed(730, 200)} {
		l := slowRecords(x)
		sum := leap.Total(x, api.MaxDay)
		early, late := endOf(x), lastSecond
		for _, p := range []int{early, early + 1, early + 86400, late - 1, late} {
			checkTable(t, with(l, p+sum, sum), until(x, p), true)
		}
		for _, p := range []int{early - 1, early - 2, late + 1, late + 2, late + 86400, most - 300} {
			checkTable(t, with(l, p+sum, sum), api.Table{}, false)
		}
	}
}

// P12.4: 201 leaps are right records, but no table's.
func TestTableOfTooManyLeaps(t *testing.T) {
	x := table(monthEnds(730, 201)...)
	l := slowRecords(x)
	checkNoTable(t, l, true)
	checkNoTable(t, with(l, l[200].At+1, 201), false)
	short := table(monthEnds(730, 200)...)
	checkTable(t, l[:200], short, true)
	checkTable(t, with(l[:200], l[199].At+1, 200), until(short, endOf(short)), true)
	checkNoTable(t, rising(201), true)
	checkNoTable(t, rising(202), false)
}

// P12.4: a record more or less, a second off or a Corr off, makes another table or none.
func TestTableOfSpoiltRecords(t *testing.T) {
	for _, x := range []api.Table{table(911), table(911, 1095, -1460, -1825), until(table(-911, 1095), 94694400), mixed(730, 30), until(published(), 1782604800)} {
		l := slowRecords(x)
		for k := range x.Leaps {
			for _, change := range []func(c *api.Corr){
				func(c *api.Corr) { c.At++ },
				func(c *api.Corr) { c.At-- },
				func(c *api.Corr) { c.At += 86400 },
				func(c *api.Corr) { c.At = -c.At },
				func(c *api.Corr) { c.Corr += 2 },
				func(c *api.Corr) { c.Corr -= 2 },
				func(c *api.Corr) { c.Corr += 5 },
				func(c *api.Corr) { c.Corr = most },
				func(c *api.Corr) { c.Corr = least },
			} {
				y := slices.Clone(l)
				change(&y[k])
				checkTable(t, y, api.Table{}, false)
			}
		}
	}
}

// P12.4: of rows that are not right nothing is promised; yet none of them is a table's.
func TestTableOfWrongRows(t *testing.T) {
	for _, l := range [][]api.Corr{
		row(-1, 1), row(-86400, 1), row(least, 1), row(least, -1), row(least, 0), row(least, least), row(most, least), row(least, most), row(most, most),
		row(78796800, 2), row(78796800, 1, 78796800, 2), row(94694400, 1, 78796801, 2), row(5, 0, 78796800, 1), row(78796800, 1, 94694401, 1, 126230402, 2),
		row(78796800, most, 94694401, least), row(78796800, least, 94694401, most), row(0, most, most, least, least, 0), row(most, 1, least, 2),
		row(78796800, 1, 78796799, 1), row(78796799, -1, 78796798, -1), row(78796800, 1, 94694401, 3), row(78796800, 1, -1, 1),
	} {
		checkNoTable(t, l, false)
	}
}

// P12.5: rows that differ in one place, or in length, are not the same; right or not.
func TestSame(t *testing.T) {
	for _, base := range [][]api.Corr{row(78796800, 1, 94694401, 2, 126230401, 1), row(0, 0, 0, 0), row(-5, most, 911, least), rising(201), rising(300)} {
		checkSame(t, base, base, true)
		checkSame(t, base, slices.Clone(base), true)
		n := len(base)
		for _, k := range []int{0, n / 2, n - 1} {
			for _, change := range []func(c *api.Corr){
				func(c *api.Corr) { c.At++ },
				func(c *api.Corr) { c.At += 1 << 32 },
				func(c *api.Corr) { c.At = ^c.At },
				func(c *api.Corr) { c.Corr++ },
				func(c *api.Corr) { c.Corr += 1 << 32 },
				func(c *api.Corr) { c.Corr = ^c.Corr },
				func(c *api.Corr) { c.At, c.Corr = c.Corr+7, c.At },
			} {
				x := slices.Clone(base)
				change(&x[k])
				checkSame(t, base, x, false)
				checkSame(t, x, slices.Clone(x), true)
			}
		}
		for _, x := range [][]api.Corr{nil, {}, base[:n-1], base[1:], with(base, 0, 0), with(base, base[n-1].At, base[n-1].Corr)} {
			checkSame(t, base, x, false)
			checkSame(t, x, slices.Clone(x), true)
		}
	}
	checkSame(t, row(5, 1, 6, 2), row(6, 2, 5, 1), false)
}

// P12.5, W5: nil and empty rows are the same; spare room says nothing.
func TestSameOfNone(t *testing.T) {
	none := [][]api.Corr{nil, {}, make([]api.Corr, 0, 4), rising(3)[:0]}
	for _, a := range none {
		for _, b := range none {
			checkSame(t, a, b, true)
		}
		checkSame(t, a, row(0, 0), false)
		checkSame(t, a, row(5, 1), false)
	}
	checkSame(t, rising(9)[:4], rising(5)[:4], true)
	checkSame(t, rising(9)[:4], rising(4), true)
}

// roomyRow tells l with spare room, and the row with all of that room, which is filled.
func roomyRow(l []api.Corr, room int) ([]api.Corr, []api.Corr) {
	whole := slices.Clone(l)
	for k := range room {
		whole = append(whole, api.Corr{At: -1 - k, Corr: 77 + k})
	}
	return whole[:len(l)], whole
}

// roomyTable tells t with spare room, and the row of leaps with all of that room, which is filled.
func roomyTable(t api.Table, room int) (api.Table, []api.Leap) {
	whole := slices.Clone(t.Leaps)
	for k := range room {
		whole = append(whole, api.Leap{Day: -1 - k, Step: 77 + k, Roll: true})
	}
	t.Leaps = whole[:len(t.Leaps)]
	return t, whole
}

// P12.5, W6: what is handed in stays as it was, its spare room too, whatever is asked.
func TestNothingIsChanged(t *testing.T) {
	for _, room := range []int{0, 1, 5, 300} {
		for _, x := range someTables() {
			l, whole := roomyRow(slowRecords(x), room)
			had := slices.Clone(whole)
			for _, at := range []int{least, 78796800, most} {
				_, _ = Sum(l, at), Step(l, at)
			}
			_, _ = Check(l)
			_, _ = Expiry(l)
			_, _ = Table(l)
			_, _ = Right(l), Same(l, l)
			if !equal(whole, had) {
				t.Fatalf("%s with room for %d was changed", brief(had), room)
			}
			y, leaps := roomyTable(x, room)
			hadLeaps := slices.Clone(leaps)
			_, _ = Records(y)
			if !slices.Equal(leaps, hadLeaps) {
				t.Fatalf("%s with room for %d was changed", brief(hadLeaps), room)
			}
		}
	}
}

// P12.5, W6: what Table answers shares no memory with its row, nor with another answer, spare room neither; nor does it change with them.
func TestTablesShareNothing(t *testing.T) {
	for _, want := range someTables() {
		l, whole := roomyRow(slowRecords(want), 3)
		x, _ := Table(l)
		y, _ := Table(l)
		clear(whole)
		if !leap.Same(x, want) {
			t.Fatalf("%s: its row was kept", brief(want))
		}
		all := x.Leaps[:cap(x.Leaps)]
		for k := range all {
			all[k] = api.Leap{Day: 4711, Step: 7}
		}
		if !leap.Same(y, want) || slices.ContainsFunc(whole, func(c api.Corr) bool { return c != (api.Corr{}) }) {
			t.Fatalf("%s: two answers share memory, or one with its row", brief(want))
		}
	}
}

// P12.5, W6: what Records answers shares no memory with another answer, spare room neither, and does not change with its table.
func TestRecordsShareNothing(t *testing.T) {
	for _, x := range someTables() {
		want := slowRecords(x)
		y, whole := roomyTable(x, 3)
		a, _ := Records(y)
		b, _ := Records(y)
		had := slices.Clone(whole)
		all := a[:cap(a)]
		for k := range all {
			all[k] = api.Corr{At: 4711, Corr: 7}
		}
		if !equal(b, want) || !slices.Equal(whole, had) {
			t.Fatalf("%s: two answers share memory, or one with its table", brief(x))
		}
		clear(whole)
		if !equal(b, want) {
			t.Fatalf("%s: its leaps were kept", brief(x))
		}
	}
}

// slowCheck is another way to Check: all errors of each record, in numbers that have no end, of which the first one is chosen.
func slowCheck(l []api.Corr) (int, api.Errno) {
	less := func(a, b int) *big.Int {
		return new(big.Int).Sub(big.NewInt(int64(a)), big.NewInt(int64(b)))
	}
	ahead := api.Corr{}
	for k, one := range l {
		differs, far := less(one.Corr, ahead.Corr), less(one.At, ahead.At)
		expiry := k+1 == len(l) && differs.Sign() == 0
		wrongStep := !expiry && new(big.Int).Abs(differs).Cmp(big.NewInt(1)) != 0
		tooNear := k > 0 && far.Cmp(big.NewInt(gap)) < 0
		if expiry {
			tooNear = k > 0 && far.Sign() < 0
		}
		if e := errorOf(k == 201, one.At < 0, wrongStep, tooNear); e != 0 {
			return k, e
		}
		ahead = one
	}
	return len(l), 0
}

// slowTable is another way to Table, of right rows: for each leap its day is looked for in all ends of months that may have one.
func slowTable(l []api.Corr) (api.Table, bool) {
	var t api.Table
	sum := 0
	for _, one := range l {
		step := one.Corr - sum
		if step == 0 {
			t.Has, t.Expires = true, one.At-sum
			break
		}
		days := map[int]int{one.At/86400 - 1: 1, one.At / 86400: 1, one.At/86400 - 2: 1, one.At/86400 + 1: 1}
		found := false
		for d := range days {
			if d >= 730 && d < 2932896 && isEnd(d) && begin(t, d)+86400+min(step, 0) == one.At {
				t.Leaps = append(t.Leaps, api.Leap{Day: d, Step: step})
				found = true
				break
			}
		}
		if !found || len(t.Leaps) > 200 {
			return api.Table{}, false
		}
		sum = one.Corr
	}
	if t.Has && (t.Expires < endOf(t) || t.Expires > lastSecond) {
		return api.Table{}, false
	}
	return t, true
}

// anyRow tells a row that is often right, and often nearly so; some are a table's.
func anyRow(r *rand.Rand) []api.Corr {
	n := r.Intn(6)
	if r.Intn(20) == 0 {
		n = 197 + r.Intn(7)
	}
	var l []api.Corr
	sum := 0
	at := []int{0, 63072000, 86400 * r.Intn(30000), most - 10*gap}[r.Intn(4)]
	ends := monthEnds(731+r.Intn(3000), n)
	asTable := r.Intn(2) == 0
	for k := range n {
		step := 1 - 2*r.Intn(2)
		if asTable {
			at = 86400*(ends[k]+1) + sum + min(step, 0)
		}
		sum += step
		l = append(l, api.Corr{At: at, Corr: sum})
		at = min(at, most-2*gap) + gap + r.Intn(3)*r.Intn(100000)
	}
	if r.Intn(2) == 0 {
		from := 63072000
		if n > 0 {
			from = l[n-1].At
		}
		l = append(l, api.Corr{At: from + r.Intn(4) - 1, Corr: sum})
	}
	if len(l) > 0 && r.Intn(3) == 0 {
		one := &l[r.Intn(len(l))]
		switch r.Intn(5) {
		case 0:
			one.At += r.Intn(3) - 1
		case 1:
			one.At += 86400 * (r.Intn(3) - 1)
		case 2:
			one.Corr += r.Intn(5) - 2
		case 3:
			one.At = []int{-1, 0, most, least}[r.Intn(4)]
		case 4:
			one.Corr = []int{0, most, least}[r.Intn(3)]
		}
	}
	return l
}

// P12.1 to P12.6: of many rows, against the slow ways.
func TestAnyRows(t *testing.T) {
	r := rand.New(rand.NewSource(12))
	right, tables := 0, 0
	for range 30000 {
		l := anyRow(r)
		at, e := slowCheck(l)
		checkCheck(t, l, at, e)
		checkSame(t, l, slices.Clone(l), true)
		if e != 0 {
			continue
		}
		right++
		checkSlowLookups(t, l, r.Intn(2600000000))
		for _, one := range l {
			checkSlowLookups(t, l, min(one.At, most-1)+r.Intn(3)-1)
		}
		x, ok := slowTable(l)
		checkTable(t, l, x, ok)
		if ok {
			tables++
			checkRecords(t, x, l, true)
		}
	}
	// The rows must be of each kind often enough to say something.
	if right < 10000 || tables < 3000 || right-tables < 3000 {
		t.Errorf("of 30000 rows %d are right, and %d are tables'", right, tables)
	}
}

// W2: calls at the same time do not touch each other, nor the spare room of the row and the table that they share.
func TestCallsAtTheSameTime(t *testing.T) {
	x, _ := roomyTable(until(published(), 1782604800), 8)
	l, _ := roomyRow(slowRecords(x), 8)
	var all sync.WaitGroup
	for k := range 16 {
		all.Go(func() {
			for range 200 {
				rows, ok := Records(x)
				y, is := Table(l)
				if !ok || !is || !Same(rows, l) || !leap.Same(x, y) || !Right(l) || Sum(l, l[k].At) != k+1 || Step(l, l[k].At) != 1 {
					t.Errorf("%s, %s, at the same time as others", brief(rows), brief(y))
				}
				if at, has := Expiry(l); at != 1782604827 || !has {
					t.Errorf("%d, %t, at the same time as others", at, has)
				}
				rows[k], y.Leaps[k] = api.Corr{}, api.Leap{}
			}
		})
	}
	all.Wait()
}

// W1, P12.1 to P12.6: whatever three records one behind the other, and whatever table.
func FuzzRecord(f *testing.F) {
	for _, n := range []int{0, 1, -1, 2, 78796800, 94694401, gap, most, least} {
		f.Add(78796800, 1, 94694401, 2, 157766402, 2, n, uint8(3))
		f.Add(78796799, -1, n, -2, n, -2, n, uint8(3))
		f.Add(5, 1, 5+gap, n, 5+2*gap, n, 5, uint8(2))
		f.Add(n, 1, n, 2, n, n, n, uint8(1))
		f.Add(911, 1, n, 1, 1460, -1, n, uint8(2))
	}
	f.Fuzz(func(t *testing.T, at1, corr1, at2, corr2, at3, corr3, at int, n uint8) {
		l := row(at1, corr1, at2, corr2, at3, corr3)[:n%4]
		place, e := slowCheck(l)
		checkCheck(t, l, place, e)
		checkSame(t, l, slices.Clone(l), true)
		if e == 0 {
			checkSlowLookups(t, l, at)
			x, ok := slowTable(l)
			checkTable(t, l, x, ok)
		}
		x := api.Table{Leaps: []api.Leap{{Day: at1, Step: corr1}, {Day: at2, Step: corr2}}[:n%3], Has: n > 99, Expires: at}
		if !leap.Right(x) {
			checkRecords(t, x, nil, false)
			return
		}
		rows := slowRecords(x)
		checkRecords(t, x, rows, true)
		checkTable(t, rows, x, true)
	})
}
