package leap

import (
	"fmt"
	"math/rand"
	"slices"
	"sync"
	"testing"
	"time"

	"epact/api"
)

const (
	most  = api.MaxInt
	least = api.MinInt

	lastSecond = 253402300799 // of the year 9999
)

// table tells a table of leaps: of days, 1, but those below 0, which are of -1.
func table(days ...int) api.Table {
	var t api.Table
	for _, d := range days {
		l := api.Leap{Day: d, Step: 1}
		if d < 0 {
			l = api.Leap{Day: -d, Step: -1}
		}
		t.Leaps = append(t.Leaps, l)
	}
	return t
}

// of tells a table of these leaps.
func of(leaps ...api.Leap) api.Table {
	return api.Table{Leaps: leaps}
}

// until tells t with an expiry.
func until(t api.Table, p int) api.Table {
	t.Has, t.Expires = true, p
	return t
}

// isEnd tells by the library's calendar whether the day behind d begins a month.
func isEnd(d int) bool {
	return time.Unix(int64(d+1)*86400, 0).UTC().Day() == 1
}

// monthEnds tells the first n days from d on that are the last of their month.
func monthEnds(d, n int) []int {
	var all []int
	for ; len(all) < n; d++ {
		if isEnd(d) {
			all = append(all, d)
		}
	}
	return all
}

// mixed tells a right table of n leaps, every third one of which is removed and every fourth one of local time.
func mixed(n int) api.Table {
	var t api.Table
	for k, d := range monthEnds(730, 2*n) {
		if k%2 == 0 {
			continue
		}
		l := api.Leap{Day: d, Step: 1, Roll: k%4 == 3}
		if k%3 == 0 {
			l.Step = -1
		}
		t.Leaps = append(t.Leaps, l)
	}
	return t
}

// published tells the leaps of 1972 to 2016.
func published() api.Table {
	return table(911, 1095, 1460, 1825, 2190, 2556, 2921, 3286, 3651, 4198, 4563, 4928, 5659, 6573, 7304, 7669, 8216, 8581, 8946, 9495, 10042, 10591, 13148, 14244, 15521, 16616, 17166)
}

// someTables tells right tables: without leaps, with one, with many, of both Steps, with an expiry and without.
func someTables() []api.Table {
	return []api.Table{
		{},
		{Leaps: []api.Leap{}},
		until(api.Table{}, api.Anchor),
		until(api.Table{}, lastSecond),
		table(911),
		table(-911),
		until(table(911), 78796800),
		table(760),
		table(2932865),
		table(760, 2932865),
		table(911, 1095, -1460, 1825),
		table(-911, -1095, -1460),
		of(api.Leap{Day: 911, Step: 1, Roll: true}, api.Leap{Day: 942, Step: -1, Roll: true}, api.Leap{Day: 973, Step: 1}),
		published(),
		until(published(), 1782604800),
		mixed(2), mixed(3), mixed(7), mixed(8), mixed(9), mixed(199), mixed(200),
		table(monthEnds(730, 200)...),
		until(table(monthEnds(2926000, 200)...), lastSecond),
	}
}

// clone tells t in memory of its own.
func clone(t api.Table) api.Table {
	t.Leaps = slices.Clone(t.Leaps)
	return t
}

// same holds two tables against each other, field by field.
func same(a, b api.Table) bool {
	if len(a.Leaps) != len(b.Leaps) || a.Has != b.Has || a.Expires != b.Expires {
		return false
	}
	for k := range a.Leaps {
		if a.Leaps[k].Day != b.Leaps[k].Day || a.Leaps[k].Step != b.Leaps[k].Step || a.Leaps[k].Roll != b.Leaps[k].Roll {
			return false
		}
	}
	return true
}

// brief tells the text of x, or what it begins with.
func brief(x api.Table) string {
	return fmt.Sprintf("%.200s", fmt.Sprint(x))
}

func checkCheck(t *testing.T, x api.Table, at int, want api.Errno) {
	t.Helper()
	had := clone(x)
	if k, e := Check(x); k != at || e != want {
		t.Errorf("Check of %s: %d, %d; want %d, %d", brief(x), k, e, at, want)
	}
	if ok := Right(x); ok != (want == 0) {
		t.Errorf("Right of %s: %t, where the error is %d", brief(x), ok, want)
	}
	if !same(x, had) {
		t.Errorf("%s was changed", brief(had))
	}
}

func checkLookups(t *testing.T, x api.Table, d, place, total, step int) {
	t.Helper()
	if k := Find(x, d); k != place {
		t.Errorf("Find of %s, %d: %d; want %d", brief(x), d, k, place)
	}
	if n := Total(x, d); n != total {
		t.Errorf("Total of %s, %d: %d; want %d", brief(x), d, n, total)
	}
	if n := Step(x, d); n != step {
		t.Errorf("Step of %s, %d: %d; want %d", brief(x), d, n, step)
	}
	if n := Length(x, d); n != 86400+step {
		t.Errorf("Length of %s, %d: %d; want %d", brief(x), d, n, 86400+step)
	}
}

func checkAdd(t *testing.T, x api.Table, l api.Leap, want api.Table, wrong api.Errno) {
	t.Helper()
	had := clone(x)
	y, e := Add(x, l)
	if e != wrong || !same(y, want) {
		t.Errorf("Add of %s, %v: %s, %d; want %s, %d", brief(x), l, brief(y), e, brief(want), wrong)
	}
	if !same(x, had) {
		t.Errorf("%s was changed by Add of %v", brief(had), l)
	}
}

func checkSame(t *testing.T, a, b api.Table, want bool) {
	t.Helper()
	if got := Same(a, b); got != want {
		t.Errorf("Same of %s and %s: %t", brief(a), brief(b), got)
	}
	if got := Same(b, a); got != want {
		t.Errorf("Same of %s and %s: %t", brief(b), brief(a), got)
	}
}

// P9.2: written out: the chapter's example.
func TestExample(t *testing.T) {
	x := table(911)
	if n := Total(x, 911); n != 0 {
		t.Errorf("Total of 911: %d; want 0", n)
	}
	if n := Total(x, 912); n != 1 {
		t.Errorf("Total of 912: %d; want 1", n)
	}
}

// P9.1: tables of which nothing is wrong tell how many leaps they have.
func TestRightTables(t *testing.T) {
	for _, x := range someTables() {
		checkCheck(t, x, len(x.Leaps), 0)
	}
}

// P9.1: written out: each error alone, of the first leap and of one behind others; by their numbers, as the chapter counts them.
func TestEachErrorAlone(t *testing.T) {
	checkCheck(t, table(monthEnds(730, 201)...), 200, 8)
	for _, d := range []int{699, 729, 2932896} {
		checkCheck(t, table(d), 0, 9)
		checkCheck(t, table(911, 1095, d), 2, 9)
	}
	for _, d := range []int{730, 910, 912, 2932895} {
		checkCheck(t, table(d), 0, 5)
	}
	checkCheck(t, table(760, 912), 1, 5)
	for _, step := range []int{0, 2, -2} {
		checkCheck(t, of(api.Leap{Day: 911, Step: step}), 0, 6)
		checkCheck(t, of(api.Leap{Day: 911, Step: 1}, api.Leap{Day: 1095, Step: step}), 1, 6)
	}
	checkCheck(t, table(911, 911), 1, 4)
	checkCheck(t, table(911, 1095, 942), 2, 4)
}

// P9.1: written out: days at the ends of what may be, and far beyond; some of them are ends of months, and still out of range.
func TestEdgesOfDays(t *testing.T) {
	for d, want := range map[int]api.Errno{
		699: 9, 728: 9, 729: 9, 730: 5, 731: 5, 759: 5, 760: 0, 761: 5, 789: 0,
		2932864: 5, 2932865: 0, 2932866: 5, 2932894: 5, 2932895: 5, 2932896: 9, 2932897: 9, 2932927: 9,
		0: 9, 30: 9, -1: 9, -911: 9, -719162: 9, -719163: 9, 1 << 32: 9, 1<<32 + 911: 9, -1<<32 + 911: 9,
		most: 9, most - 1: 9, least: 9, least + 1: 9, least + 911: 9,
	} {
		at := 0
		if want == 0 {
			at = 1
		}
		checkCheck(t, of(api.Leap{Day: d, Step: 1}), at, want)
		checkCheck(t, of(api.Leap{Day: d, Step: -1, Roll: true}), at, want)
	}
}

// P9.1: each day that has a number, by the library's calendar, and some beside them.
func TestEachDay(t *testing.T) {
	x := of(api.Leap{Step: 1})
	for d := api.MinDay - 40; d <= api.MaxDay+40; d++ {
		at, want := 0, api.Errno(5)
		if d < 730 || d > 2932895 {
			want = 9
		} else if isEnd(d) {
			at, want = 1, 0
		}
		x.Leaps[0].Day = d
		if k, e := Check(x); k != at || e != want {
			t.Fatalf("the day %d: %d, %d; want %d, %d", d, k, e, at, want)
		}
	}
}

// P9.1: only 1 and -1 are Steps; what is one of them in fewer bits is none.
func TestEdgesOfSteps(t *testing.T) {
	for _, step := range []int{1, -1} {
		checkCheck(t, of(api.Leap{Day: 911, Step: step}), 1, 0)
		checkCheck(t, of(api.Leap{Day: 911, Step: step, Roll: true}), 1, 0)
	}
	for _, step := range []int{0, 2, -2, 3, -3, 255, 256, 257, 1<<16 + 1, 1<<32 + 1, 1<<32 - 1, -1<<32 + 1, most, most - 1, least, least + 1} {
		checkCheck(t, of(api.Leap{Day: 911, Step: step}), 0, 6)
		checkCheck(t, of(api.Leap{Day: 911, Step: step, Roll: true}), 0, 6)
		checkCheck(t, of(api.Leap{Day: 760, Step: 1}, api.Leap{Day: 911, Step: step}), 1, 6)
	}
}

// P9.1: days must rise, whatever the Steps and the marks of local time are.
func TestOrder(t *testing.T) {
	ends := monthEnds(730, 6)
	for _, a := range ends {
		for _, b := range ends {
			for _, roll := range []bool{false, true} {
				for _, step := range []int{1, -1} {
					x := of(api.Leap{Day: a, Step: 1}, api.Leap{Day: b, Step: step, Roll: roll}, api.Leap{Day: 1095, Step: 1})
					if a < b {
						checkCheck(t, x, 3, 0)
					} else {
						checkCheck(t, x, 1, 4)
					}
				}
			}
		}
	}
	// It is the one ahead that counts, not the first nor the greatest one.
	checkCheck(t, table(911, 1460, 1095), 2, 4)
	checkCheck(t, table(911, 1095, 1095, 1460), 2, 4)
	checkCheck(t, table(1460, 1095, 1825), 1, 4)
}

// P9.1: none, and the greatest number of leaps; that there is one too many is told at its place, whatever is behind.
func TestHowMany(t *testing.T) {
	checkCheck(t, api.Table{}, 0, 0)
	checkCheck(t, api.Table{Leaps: []api.Leap{}}, 0, 0)
	for _, n := range []int{1, 2, 127, 128, 198, 199, 200} {
		checkCheck(t, table(monthEnds(730, n)...), n, 0)
		checkCheck(t, mixed(n), n, 0)
	}
	for _, n := range []int{201, 202, 256, 400, 1000} {
		checkCheck(t, table(monthEnds(730, n)...), 200, 8)
		checkCheck(t, until(table(monthEnds(730, n)...), lastSecond), 200, 8)
		checkCheck(t, until(table(monthEnds(730, n)...), 0), 200, 8)
	}
}

// wrongLeap tells a leap behind one of the day ahead with just the errors that are asked for. A day is behind the last one that has a number, if it is out of range but not out of order.
func wrongLeap(ahead int, outOfRange, noEnd, wrongStep, noOrder bool) api.Leap {
	l := api.Leap{Step: 1}
	if wrongStep {
		l.Step = 0
	}
	switch {
	case outOfRange && noEnd && noOrder:
		l.Day = 5
	case outOfRange && noOrder:
		l.Day = 30
	case outOfRange && noEnd:
		l.Day = 2932897
	case outOfRange:
		l.Day = 2932896
	case noEnd && noOrder:
		l.Day = ahead - 1
	case noOrder:
		l.Day = ahead
	case noEnd:
		l.Day = ahead + 1
	default:
		l.Day = monthEnds(ahead+1, 1)[0]
	}
	return l
}

// errorOf tells the first error of these, as the chapter orders them.
func errorOf(tooMany, outOfRange, noEnd, wrongStep, noOrder bool) api.Errno {
	for k, is := range []bool{tooMany, outOfRange, noEnd, wrongStep, noOrder} {
		if is {
			return []api.Errno{8, 9, 5, 6, 4}[k]
		}
	}
	return 0
}

// P9.1: all errors together, and each choice of them: the first one named is told; whatever the expiry is.
func TestFirstErrorOfALeap(t *testing.T) {
	for choice := range 32 {
		has := func(bit int) bool { return choice>>bit&1 == 1 }
		ahead := 1
		if has(0) {
			ahead = 200
		}
		x := table(monthEnds(730, ahead)...)
		x.Leaps = append(x.Leaps, wrongLeap(x.Leaps[ahead-1].Day, has(1), has(2), has(3), has(4)))
		at, want := ahead, errorOf(has(0), has(1), has(2), has(3), has(4))
		if want == 0 {
			checkCheck(t, x, ahead+1, 0)
			continue
		}
		checkCheck(t, x, at, want)
		checkCheck(t, until(x, 0), at, want)
		checkCheck(t, until(x, lastSecond), at, want)
		x.Leaps = append(x.Leaps, api.Leap{}, api.Leap{Day: 911, Step: 1})
		checkCheck(t, x, at, want)
	}
}

// P9.1: of several wrong leaps the first one from the front is told, though the error of another is named earlier.
func TestFirstLeapOfSeveral(t *testing.T) {
	ends := monthEnds(730, 203)
	spoil := []struct {
		as   func(l *api.Leap, ahead int)
		want api.Errno
	}{
		{func(l *api.Leap, ahead int) { l.Day = 729 }, 9},
		{func(l *api.Leap, ahead int) { l.Day-- }, 5},
		{func(l *api.Leap, ahead int) { l.Step = 3 }, 6},
		{func(l *api.Leap, ahead int) { l.Day = ahead }, 4},
	}
	for _, n := range []int{4, 200, 203} {
		for _, first := range spoil {
			for _, second := range spoil {
				for _, at := range []int{1, 2, n / 2} {
					x := table(ends[:n]...)
					second.as(&x.Leaps[n-1], x.Leaps[n-2].Day)
					first.as(&x.Leaps[at], x.Leaps[at-1].Day)
					checkCheck(t, x, at, first.want)
				}
			}
		}
	}
}

// P9.1: written out: expiries at the ends of what may be, with and without leaps.
func TestExpiries(t *testing.T) {
	for _, one := range []struct {
		t           api.Table
		least, most int
	}{
		{api.Table{}, 63072000, lastSecond},
		{api.Table{Leaps: []api.Leap{}}, 63072000, lastSecond},
		{table(760), 65750400, lastSecond},
		{table(911), 78796800, lastSecond},
		{table(-911), 78796800, lastSecond},
		{table(911, 1095), 94694400, lastSecond},
		{table(911, -1095), 94694400, lastSecond},
		{published(), 1483228800, lastSecond},
		{table(2932865), 253399622400, lastSecond},
	} {
		n := len(one.t.Leaps)
		for _, p := range []int{one.least, one.least + 1, one.least + 86400, one.most - 86400, one.most - 1, one.most} {
			checkCheck(t, until(one.t, p), n, 0)
		}
		for _, p := range []int{one.least - 1, one.least - 2, one.least - 86400, 63071999, 911, 1, 0, -1, least, least + 1, one.most + 1, one.most + 2, one.most + 86400, 1<<40 + one.least, most - 1, most} {
			checkCheck(t, until(one.t, p), n, 9)
		}
	}
}

// P9.1: without Has only an Expires of 0 may be; what may be with it may not.
func TestExpiryThatIsNone(t *testing.T) {
	for _, x := range []api.Table{{}, table(911), published(), mixed(200)} {
		n := len(x.Leaps)
		checkCheck(t, x, n, 0)
		for _, p := range []int{1, -1, 2, 63071999, 63072000, 78796800, 1483228800, 253399622400, lastSecond, lastSecond + 1, 1 << 32, most, least} {
			x.Expires = p
			checkCheck(t, x, n, 9)
		}
	}
}

// P9.1: a wrong leap is told ahead of a wrong expiry.
func TestLeapsAheadOfExpiries(t *testing.T) {
	for _, p := range []int{0, 63071999, lastSecond, lastSecond + 1, least, most} {
		checkCheck(t, until(table(911, 912), p), 1, 5)
		checkCheck(t, until(table(911, 911), p), 1, 4)
		checkCheck(t, until(of(api.Leap{Day: 911}), p), 0, 6)
		checkCheck(t, until(table(most), p), 0, 9)
		checkCheck(t, until(table(least+1), p), 0, 9)
		odd := table(911, 942, 912)
		odd.Expires = p
		checkCheck(t, odd, 2, 5)
	}
}

// P9.2: written out: at each leap, beside them, ahead of all and behind them, far out.
func TestLookupsByHand(t *testing.T) {
	x := table(911, 1095, -1460, 1825)
	for d, want := range map[int][3]int{
		least: {0, 0, 0}, least + 1: {0, 0, 0}, -1: {0, 0, 0}, 0: {0, 0, 0}, 730: {0, 0, 0},
		910: {0, 0, 0}, 911: {0, 0, 1}, 912: {1, 1, 0},
		1094: {1, 1, 0}, 1095: {1, 1, 1}, 1096: {2, 2, 0},
		1459: {2, 2, 0}, 1460: {2, 2, -1}, 1461: {3, 1, 0},
		1824: {3, 1, 0}, 1825: {3, 1, 1}, 1826: {4, 2, 0},
		2932896: {4, 2, 0}, most - 1: {4, 2, 0}, most: {4, 2, 0},
	} {
		checkLookups(t, x, d, want[0], want[1], want[2])
		checkLookups(t, until(x, lastSecond), d, want[0], want[1], want[2])
	}
	for d, want := range map[int][3]int{least: {0, 0, 0}, 910: {0, 0, 0}, 911: {0, 0, -1}, 912: {1, -1, 0}, most: {1, -1, 0}} {
		checkLookups(t, table(-911), d, want[0], want[1], want[2])
	}
	checkLookups(t, published(), 17166, 26, 26, 1)
	checkLookups(t, published(), 17167, 27, 27, 0)
}

// P9.2: of a table without leaps, at all days.
func TestLookupsOfNone(t *testing.T) {
	for _, x := range []api.Table{{}, {Leaps: []api.Leap{}}, {Leaps: make([]api.Leap, 0, 5)}, until(api.Table{}, api.Anchor)} {
		for _, d := range []int{least, -911, -1, 0, 1, 729, 730, 911, api.MaxDay, most} {
			checkLookups(t, x, d, 0, 0, 0)
		}
	}
}

// slowLookups is another way to all of them: one leap behind the other.
func slowLookups(x api.Table, d int) (int, int, int) {
	place, total, step := 0, 0, 0
	for _, l := range x.Leaps {
		if l.Day < d {
			place++
			total += l.Step
		} else if l.Day == d {
			step += l.Step
		}
	}
	return place, total, step
}

// P9.2: at each leap of many tables, the days beside it, and far out.
func TestLookupsOfMany(t *testing.T) {
	for _, x := range someTables() {
		days := []int{least, least + 1, -1 << 32, api.MinDay, -1, 0, 1, 729, 730, api.MaxDay - 1, api.MaxDay, api.MaxDay + 1, 1 << 32, most - 1, most}
		for _, l := range x.Leaps {
			days = append(days, l.Day-2, l.Day-1, l.Day, l.Day+1, l.Day+2, -l.Day, l.Day+1<<32)
		}
		for _, d := range days {
			place, total, step := slowLookups(x, d)
			checkLookups(t, x, d, place, total, step)
		}
	}
}

// P9.2: of tables of each length up to the greatest one, at each place.
func TestLookupsOfEachLength(t *testing.T) {
	whole := mixed(200)
	for n := range 201 {
		x := of(whole.Leaps[:n]...)
		total := 0
		for k, l := range whole.Leaps {
			step := 0
			if k < n {
				step = l.Step
			}
			checkLookups(t, x, l.Day, min(k, n), total, step)
			total += step
			checkLookups(t, x, l.Day+1, min(k+1, n), total, 0)
		}
	}
}

// P9.5: from the day ahead of all leaps to the one behind them, and at the ends of numbers.
func TestTotalOfTheNextDay(t *testing.T) {
	for _, x := range someTables() {
		days := []int{least, least + 1, -1, 0, 729, api.MaxDay, most - 1}
		for d := 700; d < 20000; d++ {
			days = append(days, d)
		}
		for _, l := range x.Leaps {
			days = append(days, l.Day-1, l.Day, l.Day+1)
		}
		for _, d := range days {
			if next := Total(x, d+1); next != Total(x, d)+Step(x, d) || next-Total(x, d) != Length(x, d)-86400 {
				t.Fatalf("%s: Total of %d is %d, of the next day %d, its Step %d", brief(x), d, Total(x, d), next, Step(x, d))
			}
		}
	}
}

// P9.3: written out: leaps that may stand there, of both Steps and marks, onto none and onto others.
func TestAddOfRightLeaps(t *testing.T) {
	for _, step := range []int{1, -1} {
		for _, roll := range []bool{false, true} {
			l := api.Leap{Day: 1095, Step: step, Roll: roll}
			first := api.Leap{Day: 911, Step: 1}
			checkAdd(t, api.Table{}, l, of(l), 0)
			checkAdd(t, api.Table{Leaps: []api.Leap{}}, l, of(l), 0)
			checkAdd(t, table(911), l, of(first, l), 0)
			checkAdd(t, table(760, 911), l, of(api.Leap{Day: 760, Step: 1}, first, l), 0)
			checkAdd(t, until(api.Table{}, 94694400), l, until(of(l), 94694400), 0)
			checkAdd(t, until(table(911), lastSecond), l, until(of(first, l), lastSecond), 0)
		}
	}
	checkAdd(t, table(911), api.Leap{Day: 942, Step: 1}, table(911, 942), 0)
	checkAdd(t, table(911), api.Leap{Day: 2932865, Step: -1}, table(911, -2932865), 0)
	checkAdd(t, api.Table{}, api.Leap{Day: 760, Step: 1}, table(760), 0)
}

// P9.3: written out: of each kind that may not stand there the table comes back as it was, beside the error.
func TestAddOfWrongLeaps(t *testing.T) {
	for _, x := range []api.Table{table(911, -1095), until(table(911, -1095), lastSecond), until(table(911, -1095), 94694400)} {
		for l, want := range map[api.Leap]api.Errno{
			{Day: 729, Step: 1}:              9,
			{Day: 5, Step: 1}:                9,
			{Day: 2932896, Step: 1}:          9,
			{Day: most, Step: 1}:             9,
			{Day: least, Step: -1}:           9,
			{}:                               9,
			{Day: 730, Step: 1}:              5,
			{Day: 1126 + 1, Step: 1}:         5,
			{Day: 1096, Step: -1}:            5,
			{Day: 912}:                       5,
			{Day: 1126, Step: 0}:             6,
			{Day: 1126, Step: 2}:             6,
			{Day: 1126, Step: -2}:            6,
			{Day: 1126, Step: most}:          6,
			{Day: 1126, Step: least}:         6,
			{Day: 911, Step: 3}:              6,
			{Day: 1095, Step: 1}:             4,
			{Day: 1095, Step: -1}:            4,
			{Day: 1095, Step: 1, Roll: true}: 4,
			{Day: 911, Step: 1}:              4,
			{Day: 760, Step: 1}:              4,
		} {
			checkAdd(t, x, l, x, want)
		}
	}
	for l, want := range map[api.Leap]api.Errno{{}: 9, {Day: 729, Step: 1}: 9, {Day: 910, Step: 1}: 5, {Day: 911}: 6} {
		checkAdd(t, api.Table{}, l, api.Table{}, want)
		checkAdd(t, until(api.Table{}, api.Anchor), l, until(api.Table{}, api.Anchor), want)
	}
}

// P9.3: an expiry must be behind the new leap, too.
func TestAddAndExpiries(t *testing.T) {
	l := api.Leap{Day: 1095, Step: 1}
	for _, x := range []api.Table{{}, table(911), table(911, -942)} {
		for p, want := range map[int]api.Errno{78796800 + 31*86400: 9, 94694398: 9, 94694399: 9, 94694400: 0, 94694401: 0, lastSecond: 0} {
			x := until(x, p)
			after := x
			if want == 0 {
				after.Leaps = append(slices.Clone(x.Leaps), l)
			}
			checkAdd(t, x, l, after, want)
		}
	}
}

// P9.3: onto the greatest number of leaps none may come, whatever it is; onto one fewer it may.
func TestAddOntoFullTables(t *testing.T) {
	ends := monthEnds(730, 201)
	full, rest := table(ends[:200]...), table(ends[:199]...)
	checkAdd(t, rest, api.Leap{Day: ends[199], Step: 1}, full, 0)
	for _, l := range []api.Leap{{Day: ends[200], Step: 1}, {Day: ends[200], Step: -1, Roll: true}, {Day: ends[0], Step: 1}, {Day: 5}, {}} {
		checkAdd(t, full, l, full, 8)
		checkAdd(t, until(full, lastSecond), l, until(full, lastSecond), 8)
	}
}

// P9.3: a table may be made of its leaps, one by one, and is right all the way.
func TestAddOneByOne(t *testing.T) {
	for _, x := range someTables() {
		made := api.Table{Has: x.Has, Expires: x.Expires}
		for k, l := range x.Leaps {
			var e api.Errno
			if made, e = Add(made, l); e != 0 || !Right(made) || len(made.Leaps) != k+1 {
				t.Fatalf("%s: its leap at %d: %d", brief(x), k, e)
			}
		}
		if !same(made, x) {
			t.Errorf("%s was made as %s", brief(x), brief(made))
		}
	}
}

// roomy tells x with spare room, and the row with all of that room, which is filled.
func roomy(x api.Table, room int) (api.Table, []api.Leap) {
	whole := slices.Clone(x.Leaps)
	for k := range room {
		whole = append(whole, api.Leap{Day: -1 - k, Step: 77 + k, Roll: true})
	}
	x.Leaps = whole[:len(x.Leaps)]
	return x, whole
}

// P9.4, W6: Add changes neither the leaps that it is given nor their spare room, and what it answers, with its own spare room, shares none with them; so beside an error, too.
func TestAddSharesNothing(t *testing.T) {
	for _, l := range []api.Leap{{Day: 2932865, Step: 1}, {Day: 2932865, Step: 2}, {Day: 2932864, Step: 1}, {Day: 5, Step: 1}, {Day: 760, Step: -1}} {
		for _, n := range []int{0, 1, 2, 7, 8, 199, 200} {
			for _, room := range []int{0, 1, 2, 100} {
				x, whole := roomy(mixed(n), room)
				had := slices.Clone(whole)
				y, e := Add(x, l)
				want := x
				if e == 0 {
					want.Leaps = append(slices.Clone(x.Leaps), l)
				}
				want = clone(want)
				if !slices.Equal(whole, had) {
					t.Fatalf("Add of %v onto %d leaps with room for %d changed what it was given", l, n, room)
				}
				clear(whole)
				if !same(y, want) {
					t.Fatalf("Add of %v onto %d leaps with room for %d kept what it was given", l, n, room)
				}
				copy(whole, had)
				all := y.Leaps[:cap(y.Leaps)]
				for k := range all {
					all[k] = api.Leap{Day: 4711}
				}
				if !slices.Equal(whole, had) {
					t.Fatalf("Add of %v onto %d leaps with room for %d answered what it was given", l, n, room)
				}
			}
		}
	}
}

// P9.4, W6: two answers of one table do not share memory either.
func TestTwoAnswersShareNothing(t *testing.T) {
	x, _ := roomy(table(911), 10)
	a, _ := Add(x, api.Leap{Day: 1095, Step: 1})
	b, _ := Add(x, api.Leap{Day: 1460, Step: -1})
	c, _ := Add(x, api.Leap{Day: 5})
	if !same(a, table(911, 1095)) || !same(b, table(911, -1460)) || !same(c, table(911)) {
		t.Errorf("%s, %s, %s", brief(a), brief(b), brief(c))
	}
	a.Leaps[0].Step, b.Leaps[0].Day = 5, 7
	d, _ := Add(a, api.Leap{})
	d.Leaps[1].Day = 9
	if a.Leaps[0] != (api.Leap{Day: 911, Step: 5}) || a.Leaps[1].Day != 1095 || b.Leaps[0] != (api.Leap{Day: 7, Step: 1}) || !same(c, table(911)) || !same(x, table(911)) {
		t.Errorf("%s, %s, %s, of %s", brief(a), brief(b), brief(c), brief(x))
	}
}

// P9.4, W6: the lookups and checks change nothing, spare room neither.
func TestLooksChangeNothing(t *testing.T) {
	for _, n := range []int{0, 1, 8, 200} {
		x, whole := roomy(mixed(n), 3)
		had := slices.Clone(whole)
		for _, d := range []int{least, 911, 5000, most} {
			_, _, _, _ = Find(x, d), Total(x, d), Step(x, d), Length(x, d)
		}
		_, _ = Right(x), Same(x, clone(x))
		if k, e := Check(x); k != n || e != 0 || !slices.Equal(whole, had) {
			t.Errorf("%d leaps: %d, %d, %v; were %v", n, k, e, whole, had)
		}
	}
}

// P9.4: tables that differ in one thing alone are not the same; right or not.
func TestSame(t *testing.T) {
	base := until(of(api.Leap{Day: 911, Step: 1}, api.Leap{Day: 1095, Step: -1, Roll: true}, api.Leap{Day: 1460, Step: 1}), lastSecond)
	checkSame(t, base, base, true)
	checkSame(t, base, clone(base), true)
	for k := range base.Leaps {
		for _, change := range []func(l *api.Leap){
			func(l *api.Leap) { l.Day++ },
			func(l *api.Leap) { l.Day += 1 << 32 },
			func(l *api.Leap) { l.Step = -l.Step },
			func(l *api.Leap) { l.Step += 1 << 32 },
			func(l *api.Leap) { l.Roll = !l.Roll },
			func(l *api.Leap) { *l = api.Leap{} },
		} {
			x := clone(base)
			change(&x.Leaps[k])
			checkSame(t, base, x, false)
			checkSame(t, x, clone(x), true)
		}
	}
	for _, x := range []api.Table{
		until(of(base.Leaps[:2]...), lastSecond),
		until(of(base.Leaps[1:]...), lastSecond),
		until(of(append(slices.Clone(base.Leaps), api.Leap{})...), lastSecond),
		until(of(append(slices.Clone(base.Leaps), base.Leaps[2])...), lastSecond),
		until(of(base.Leaps[1], base.Leaps[0], base.Leaps[2]), lastSecond),
		until(api.Table{}, lastSecond),
		{Leaps: base.Leaps, Expires: lastSecond},
		until(base, lastSecond-1),
		until(base, lastSecond+1),
		until(base, lastSecond+1<<40),
		until(base, 0),
		{Leaps: base.Leaps},
		{},
	} {
		checkSame(t, base, x, false)
		checkSame(t, x, clone(x), true)
	}
}

// P9.4, W5: of tables without leaps, nil or empty; of which Has and Expires count, too.
func TestSameOfNone(t *testing.T) {
	none := []api.Table{{}, {Leaps: []api.Leap{}}, {Leaps: make([]api.Leap, 0, 4)}, {Leaps: published().Leaps[:0]}}
	for _, a := range none {
		for _, b := range none {
			checkSame(t, a, b, true)
			checkSame(t, until(a, 7), until(b, 7), true)
			checkSame(t, until(a, 0), b, false)
			checkSame(t, until(a, 7), until(b, 8), false)
		}
		checkSame(t, a, of(api.Leap{}), false)
		checkSame(t, a, api.Table{Expires: 1}, false)
		checkSame(t, a, api.Table{Has: true}, false)
	}
}

// P9.4: spare room says nothing.
func TestSameWithSpareRoom(t *testing.T) {
	for _, n := range []int{0, 1, 8} {
		x, _ := roomy(mixed(n), 3)
		y, _ := roomy(mixed(n), 2)
		checkSame(t, x, y, true)
		checkSame(t, x, mixed(n), true)
	}
}

// P9.4: each two tables, whether right or not, against a comparison field by field.
func TestSameOfEachTwo(t *testing.T) {
	all := append(someTables(), table(5), table(most), of(api.Leap{}), of(api.Leap{}, api.Leap{}), api.Table{Expires: most}, api.Table{Has: true, Expires: least}, table(monthEnds(730, 300)...))
	for _, a := range all {
		for _, b := range all {
			checkSame(t, a, clone(b), same(a, b))
		}
	}
}

// slowCheck is another way to Check: all errors of each leap, of which the first one is chosen.
func slowCheck(x api.Table) (int, api.Errno) {
	for k, l := range x.Leaps {
		outOfRange := l.Day < 730 || l.Day >= 2932896
		noEnd := !outOfRange && !isEnd(l.Day)
		wrongStep := !slices.Contains([]int{1, -1}, l.Step)
		noOrder := k > 0 && !(l.Day > x.Leaps[k-1].Day)
		if e := errorOf(k == 200, outOfRange, noEnd, wrongStep, noOrder); e != 0 {
			return k, e
		}
	}
	n := len(x.Leaps)
	wrong := !x.Has && x.Expires != 0
	if x.Has {
		wrong = x.Expires < 63072000 || x.Expires > lastSecond || n > 0 && x.Expires < 86400*x.Leaps[n-1].Day+86400
	}
	if wrong {
		return n, 9
	}
	return n, 0
}

// anyTable tells a table that is often right, and often nearly so.
func anyTable(r *rand.Rand) api.Table {
	n := r.Intn(6)
	if r.Intn(20) == 0 {
		n = 195 + r.Intn(10)
	}
	x := api.Table{Has: r.Intn(2) == 0}
	d := 730 + r.Intn(800)
	for _, e := range monthEnds(d, n) {
		l := api.Leap{Day: e, Step: 1 - 2*r.Intn(2), Roll: r.Intn(4) == 0}
		switch r.Intn(8 + 8*n) {
		case 0:
			l.Day += r.Intn(3) - 1
		case 1:
			l.Day -= 31 * r.Intn(4)
		case 2:
			l.Step = r.Intn(5) - 2
		case 3:
			l.Day = []int{729, 730, 2932895, 2932896, most, least}[r.Intn(6)]
		}
		x.Leaps = append(x.Leaps, l)
	}
	if x.Has {
		x.Expires = []int{lastSecond - 1 + r.Intn(3), api.Anchor - 1 + r.Intn(3), 86400*(d+31*n) + r.Intn(86400)}[r.Intn(3)]
		if n > 0 && r.Intn(2) == 0 {
			x.Expires = 86400*(x.Leaps[n-1].Day+1) - 1 + r.Intn(3)
		}
	} else if r.Intn(4) == 0 {
		x.Expires = r.Intn(3) - 1
	}
	return x
}

// P9.1 to P9.5: of many tables, against the slow ways.
func TestAnyTables(t *testing.T) {
	r := rand.New(rand.NewSource(9))
	for range 20000 {
		x := anyTable(r)
		at, e := slowCheck(x)
		checkCheck(t, x, at, e)
		if e != 0 {
			continue
		}
		d := 700 + r.Intn(2000)
		place, total, step := slowLookups(x, d)
		checkLookups(t, x, d, place, total, step)
		l := api.Leap{Day: monthEnds(d, 1)[0] + r.Intn(5)/4, Step: 1 - r.Intn(5)/2}
		want := clone(x)
		want.Leaps = append(want.Leaps, l)
		_, wrong := slowCheck(want)
		if wrong != 0 {
			want = x
		}
		checkAdd(t, x, l, want, wrong)
	}
}

// W2: calls at the same time do not touch each other, nor the spare room of the table that they share.
func TestCallsAtTheSameTime(t *testing.T) {
	x, _ := roomy(published(), 8)
	ends := monthEnds(17167, 16)
	var all sync.WaitGroup
	for _, d := range ends {
		all.Go(func() {
			for range 200 {
				l := api.Leap{Day: d, Step: -1}
				y, e := Add(x, l)
				if e != 0 || !Right(y) || y.Leaps[27] != l || Find(y, d) != 27 || Total(y, d+1) != 26 || Step(y, d) != -1 || Length(y, d) != 86399 || Same(x, y) {
					t.Errorf("%s, %d, at the same time as others", brief(y), e)
				}
			}
		})
	}
	all.Wait()
}

// W1, P9.1 to P9.5: whatever leap behind whatever other one, with whatever expiry.
func FuzzLeap(f *testing.F) {
	for _, d := range []int{911, 912, 729, 730, api.MaxDay - 1, api.MaxDay, most, least} {
		f.Add(911, 1, d, 1, false, true, 78796800, d)
		f.Add(d, -1, 1095, -1, true, false, 0, d)
		f.Add(911, 2, 911, 0, false, true, lastSecond, d)
	}
	f.Fuzz(func(t *testing.T, day1, step1, day2, step2 int, roll, has bool, expires, d int) {
		x := api.Table{Leaps: []api.Leap{{Day: day1, Step: step1}, {Day: day2, Step: step2, Roll: roll}}, Has: has, Expires: expires}
		at, e := slowCheck(x)
		checkCheck(t, x, at, e)
		checkSame(t, x, clone(x), true)
		one := x
		one.Leaps = x.Leaps[:1]
		checkSame(t, x, one, false)
		if Right(one) && e == 0 {
			checkAdd(t, one, x.Leaps[1], x, 0)
		} else if Right(one) {
			checkAdd(t, one, x.Leaps[1], clone(one), e)
		}
		if e != 0 {
			return
		}
		place, total, step := slowLookups(x, d)
		checkLookups(t, x, d, place, total, step)
		if d < most && Total(x, d+1) != Total(x, d)+Step(x, d) {
			t.Errorf("%s: Total of the day behind %d", brief(x), d)
		}
	})
}
