package right

import (
	"fmt"
	"math/big"
	"math/rand"
	"slices"
	"strconv"
	"strings"
	"sync"
	"testing"
	"time"
	"unsafe"

	"epact/api"
	"epact/foot"
	"epact/leap"
	"epact/record"
	"epact/zone"
)

const (
	most  = api.MaxInt
	least = api.MinInt
	far   = 1 << 60
	gap   = 2419199
)

// The midnights behind the days 911, 1095, 1126 and 1154: the ends of June and December of 1972, and of January and February of 1973.
const (
	june     = 78796800
	december = 94694400
	january  = 97372800
	february = 99792000
)

// The first day and the last one that a leap may have, and the last second that tables know.
const (
	firstEnd = 760
	lastEnd  = 2932865
	lastOf   = 253402300799
)

// second tells the POSIX second of a date and a clock.
func second(y, m, d, hour, min, sec int) int {
	return int(time.Date(y, time.Month(m), d, hour, min, sec, 0, time.UTC).Unix())
}

// midnight tells the first second behind a day, by the library's calendar.
func midnight(d int) int { return second(1970, 1, d+2, 0, 0, 0) }

// end tells the number of the last day of a month.
func end(y, m int) int { return second(y, m+1, 0, 0, 0, 0) / 86400 }

// kind tells a kind of local time.
func kind(off int, abbr string) api.Type { return api.Type{Off: off, Abbr: abbr} }

// summer tells a kind of local time of the summer.
func summer(off int, abbr string) api.Type { return api.Type{Off: off, Dst: true, Abbr: abbr} }

// changes tells changes: an At and a Type by turns.
func changes(n ...int) []api.Trans {
	var l []api.Trans
	for k := 0; k < len(n); k += 2 {
		l = append(l, api.Trans{At: n[k], Type: n[k+1]})
	}
	return l
}

// at tells changes to the first kind and the second one by turns.
func at(n ...int) []api.Trans {
	var l []api.Trans
	for k, one := range n {
		l = append(l, api.Trans{At: one, Type: (k + 1) % 2})
	}
	return l
}

// records tells records of leap seconds: an At and a Corr by turns.
func records(n ...int) []api.Corr {
	var l []api.Corr
	for k := 0; k < len(n); k += 2 {
		l = append(l, api.Corr{At: n[k], Corr: n[k+1]})
	}
	return l
}

// utc tells a table of leaps of UTC: of each day an inserted second, of those below 0 a removed one.
func utc(days ...int) api.Table {
	var t api.Table
	for _, d := range days {
		l := api.Leap{Day: d, Step: 1}
		if d < 0 {
			l = api.Leap{Day: -d, Step: -1}
		}
		t.Leaps = append(t.Leaps, l)
	}
	return t
}

// roll tells a table of leaps of local time likewise.
func roll(days ...int) api.Table {
	t := utc(days...)
	for k := range t.Leaps {
		t.Leaps[k].Roll = true
	}
	return t
}

// mixed tells the leaps of two tables, in order.
func mixed(a, b api.Table) api.Table {
	l := slices.Concat(a.Leaps, b.Leaps)
	slices.SortFunc(l, func(a, b api.Leap) int { return a.Day - b.Day })
	return api.Table{Leaps: l}
}

// until tells t with an expiry.
func until(t api.Table, expires int) api.Table {
	t.Has, t.Expires = true, expires
	return t
}

// halves tells so many ends of half-years, from June of 1972 on.
func halves(n int) []int {
	var l []int
	for k := range n {
		l = append(l, end(1972+k/2, 6+6*(k%2)))
	}
	return l
}

// turned tells the days of l, each second one of them below 0.
func turned(l []int) []int {
	l = slices.Clone(l)
	for k := range l {
		l[k] *= 1 - 2*(k%2)
	}
	return l
}

// minus tells the days of l, all of them below 0.
func minus(l []int) []int {
	l = slices.Clone(l)
	for k := range l {
		l[k] *= -1
	}
	return l
}

// published are the days of 1972 to 2016.
func published() []int {
	return []int{911, 1095, 1460, 1825, 2190, 2556, 2921, 3286, 3651, 4198, 4563, 4928, 5659, 6573, 7304, 7669, 8216, 8581, 8946, 9495, 10042, 10591, 13148, 14244, 15521, 16616, 17166}
}

// fixed is a zone of one kind alone.
func fixed(off int) api.Zone {
	return api.Zone{Types: []api.Type{kind(off, "AAA")}, Version: 2}
}

// between is a zone that turns from one distance to another one, once.
func between(from, to, when int) api.Zone {
	return api.Zone{Types: []api.Type{kind(from, "AAA"), summer(to, "BBB")}, Trans: at(when), Version: 2}
}

// york is a zone with each part but leap seconds.
func york() api.Zone {
	return api.Zone{
		Types: []api.Type{kind(-17762, "LMT"), summer(-14400, "EDT"), kind(-18000, "EST")},
		Trans: changes(-2717650800, 2, 100, 1, 200, 2),
		Foot:  "EST5EDT,M3.2.0,M11.1.0", Version: 2,
	}
}

// changing is a zone with changes at some seconds.
func changing(ats ...int) api.Zone {
	return api.Zone{Types: []api.Type{kind(-18000, "EST"), summer(-14400, "EDT")}, Trans: at(ats...), Version: 2}
}

// ofFoot is a zone of a foot alone.
func ofFoot(s string) api.Zone {
	return api.Zone{Types: []api.Type{kind(1, "AAA")}, Foot: s, Version: 3}
}

// sized tells a zone with so many kinds and so many changes, to each of the kinds by turns.
func sized(kinds, trans int) api.Zone {
	z := api.Zone{Types: make([]api.Type, kinds), Trans: make([]api.Trans, trans), Version: 2}
	for k := range z.Types {
		z.Types[k] = api.Type{Off: 900*k - 28800, Dst: k%3 == 1, Abbr: "EST"}
	}
	for k := range z.Trans {
		z.Trans[k] = api.Trans{At: 1000000*k - 1000000, Type: (k + 1) % max(1, kinds)}
	}
	return z
}

// changed tells a copy of z that is changed.
func changed(z api.Zone, change func(z *api.Zone)) api.Zone {
	y := copied(z)
	change(&y)
	return y
}

// copied tells z in new memory.
func copied(z api.Zone) api.Zone {
	z.Types, z.Trans, z.Leaps = slices.Clone(z.Types), slices.Clone(z.Trans), slices.Clone(z.Leaps)
	return z
}

// with tells z with such leap seconds, of a version that may expire.
func with(z api.Zone, leaps []api.Corr) api.Zone {
	return changed(z, func(z *api.Zone) { z.Leaps, z.Version = leaps, 4 })
}

// atsOf tells when the changes of a zone are.
func atsOf(z api.Zone) []int {
	var l []int
	for _, one := range z.Trans {
		l = append(l, one.At)
	}
	return l
}

// equal is another way to tell whether two zones are the same.
func equal(a, b api.Zone) bool {
	return slices.Equal(a.Types, b.Types) && slices.Equal(a.Trans, b.Trans) && slices.Equal(a.Leaps, b.Leaps) && a.Foot == b.Foot && a.Version == b.Version
}

// brief tells the most that is to be seen of a zone in a line.
func brief(z api.Zone) string {
	return fmt.Sprintf("version %d, foot %.60q, types %d %.150s, changes %d %.150s, leaps %d %.150s", z.Version, z.Foot, len(z.Types), fmt.Sprintf("%+v", z.Types), len(z.Trans), fmt.Sprint(z.Trans), len(z.Leaps), fmt.Sprint(z.Leaps))
}

// briefly tells the most that is to be seen of a table in a line.
func briefly(t api.Table) string {
	return fmt.Sprintf("leaps %d %.200s, expiry %t %d", len(t.Leaps), fmt.Sprint(t.Leaps), t.Has, t.Expires)
}

// slowPosix is another way to the POSIX second: each leap second on the way is taken away by itself.
func slowPosix(leaps []api.Corr, at int) int {
	p, sum := at, 0
	for _, one := range leaps {
		if one.At <= at {
			p -= one.Corr - sum
		}
		sum = one.Corr
	}
	return p
}

// slowOfFoot is another way to the local time of a foot, by the library's calendar.
func slowOfFoot(f api.Foot, p int) api.Type {
	local := p + f.Std.Off
	if !f.Has || local < -62135596800 || local > lastOf {
		return f.Std
	}
	from, to, _ := foot.Span(f, time.Unix(int64(local), 0).UTC().Year())
	if from < to && (p < from || p >= to) || from >= to && p < from && p >= to {
		return f.Std
	}
	return f.Dst
}

// slowKind is another way to the local time of a plain zone at a POSIX second: from the last change on, back.
func slowKind(z api.Zone, p int) api.Type {
	k := len(z.Trans) - 1
	for k >= 0 && z.Trans[k].At > p {
		k--
	}
	f, ok := foot.Parse(z.Foot)
	switch {
	case ok && k+1 == len(z.Trans):
		return slowOfFoot(f, p)
	case k < 0:
		return z.Types[0]
	}
	return z.Types[z.Trans[k].Type]
}

// slowInstant is another way to a leap's instant: the first second whose local clock, told at the last second of the day, is beyond that day.
func slowInstant(z api.Zone, l api.Leap) int {
	end := midnight(l.Day)
	if l.Roll {
		end -= slowKind(z, end-1).Off
	}
	return end
}

// slowRecords is another way to the records: those of a table of UTC, each moved by how far the zone is off; and whether they are too near each other.
func slowRecords(z api.Zone, t api.Table) ([]api.Corr, api.Errno) {
	plain := api.Table{Has: t.Has, Expires: t.Expires}
	for _, one := range t.Leaps {
		plain.Leaps = append(plain.Leaps, api.Leap{Day: one.Day, Step: one.Step})
	}
	l, ok := record.Records(plain)
	if !ok {
		panic("a table that is not right: " + briefly(t))
	}
	for k, one := range t.Leaps {
		l[k].At -= midnight(one.Day) - slowInstant(z, one)
	}
	for k := 1; k < len(l); k++ {
		apart := l[k].At - l[k-1].At
		if apart < gap && k < len(t.Leaps) || apart < 0 {
			return nil, api.ErrGap
		}
	}
	return l, api.OK
}

// slowShift is another way to Shift, in numbers without end: leap by leap, from the back.
func slowShift(z api.Zone, t api.Table, p int) (int, bool) {
	n := big.NewInt(int64(p))
	for _, one := range slices.Backward(t.Leaps) {
		if slowInstant(z, one) <= p {
			n.Add(n, big.NewInt(int64(one.Step)))
		}
	}
	if !n.IsInt64() {
		return 0, false
	}
	return int(n.Int64()), true
}

// slowMoved is another way to move changes: all at once, and each error by itself.
func slowMoved(l []api.Trans, move func(at int) (int, bool)) ([]api.Trans, api.Errno) {
	var ats []int
	var all []api.Trans
	over := false
	for _, one := range l {
		at, ok := move(one.At)
		over = over || !ok
		ats = append(ats, at)
		all = append(all, api.Trans{At: at, Type: one.Type})
	}
	switch {
	case over:
		return nil, api.ErrOver
	case !slices.Equal(ats, slices.Compact(slices.Sorted(slices.Values(ats)))):
		return nil, api.ErrOrder
	}
	return all, api.OK
}

// slowCompile is another way to compile a plain zone and a right table.
func slowCompile(z api.Zone, t api.Table) (api.Zone, api.Errno) {
	leaps, e := slowRecords(z, t)
	if e != api.OK {
		return api.Zone{}, e
	}
	trans, e := slowMoved(z.Trans, func(at int) (int, bool) { return slowShift(z, t, at) })
	if e != api.OK {
		return api.Zone{}, e
	}
	y := api.Zone{Types: z.Types, Trans: trans, Leaps: leaps, Foot: z.Foot, Version: z.Version}
	if t.Has {
		y.Version = 4
	}
	return y, api.OK
}

// slowStrip is another way to strip a right zone.
func slowStrip(z api.Zone) (api.Zone, api.Errno) {
	trans, e := slowMoved(z.Trans, func(at int) (int, bool) {
		sum := 0
		for _, one := range z.Leaps {
			if one.At <= at {
				sum = one.Corr
			}
		}
		n := new(big.Int).Sub(big.NewInt(int64(at)), big.NewInt(int64(sum)))
		return int(n.Int64()), n.IsInt64()
	})
	if e != api.OK {
		return api.Zone{}, e
	}
	return api.Zone{Types: z.Types, Trans: trans, Foot: z.Foot, Version: z.Version}, api.OK
}

func checkInstant(t *testing.T, z api.Zone, l api.Leap, want int) {
	t.Helper()
	if got := Instant(z, l); got != want {
		t.Errorf("Instant of %s, %+v: %d; want %d", brief(z), l, got, want)
	}
	if slow := slowInstant(z, l); slow != want {
		t.Errorf("the slow way to Instant of %s, %+v: %d; want %d", brief(z), l, slow, want)
	}
}

func checkRecords(t *testing.T, z api.Zone, table api.Table, want []api.Corr, error api.Errno) {
	t.Helper()
	mustBeFit(t, z, table)
	if got, e := Records(z, table); !slices.Equal(got, want) || e != error {
		t.Errorf("Records of %s and %s: %v %d; want %v %d", brief(z), briefly(table), got, e, want, error)
	}
	if slow, e := slowRecords(z, table); !slices.Equal(slow, want) || e != error {
		t.Errorf("the slow way to Records of %s and %s: %v %d; want %v %d", brief(z), briefly(table), slow, e, want, error)
	}
}

func checkShift(t *testing.T, z api.Zone, table api.Table, p, want int, ok bool) {
	t.Helper()
	if got, is := Shift(z, table, p); got != want || is != ok {
		t.Errorf("Shift of %s, %s, %d: %d %t; want %d %t", brief(z), briefly(table), p, got, is, want, ok)
	}
	if slow, is := slowShift(z, table, p); slow != want || is != ok {
		t.Errorf("the slow way to Shift of %s, %s, %d: %d %t; want %d %t", brief(z), briefly(table), p, slow, is, want, ok)
	}
}

// mustBeFit stops a test that asks of what nothing is promised.
func mustBeFit(t *testing.T, z api.Zone, table api.Table) {
	t.Helper()
	if !zone.Right(z) || len(z.Leaps) > 0 || !leap.Right(table) {
		t.Fatalf("%s is not plain, or %s is not right", brief(z), briefly(table))
	}
}

// checkCompile asks for an error, and a zero zone beside it, or for when the changes are, and all else.
func checkCompile(t *testing.T, z api.Zone, table api.Table, ats []int, error api.Errno) api.Zone {
	t.Helper()
	mustBeFit(t, z, table)
	had := copied(z)
	y, e := Compile(z, table)
	if e != error || !slices.Equal(atsOf(y), ats) {
		t.Errorf("Compile of %s and %s: %s, %d; want %.150s, %d", brief(z), briefly(table), brief(y), e, fmt.Sprint(ats), error)
	}
	if slow, e := slowCompile(z, table); e != error || !equal(y, slow) {
		t.Errorf("Compile of %s and %s: %s; the slow way: %s %d", brief(z), briefly(table), brief(y), brief(slow), e)
	}
	if !equal(z, had) {
		t.Errorf("Compile changed %s to %s", brief(had), brief(z))
	}
	if error == api.OK && !zone.Right(y) {
		t.Errorf("Compile of %s and %s is not right: %s", brief(z), briefly(table), brief(y))
	}
	return y
}

// checkStrip asks the same of Strip.
func checkStrip(t *testing.T, z api.Zone, ats []int, error api.Errno) api.Zone {
	t.Helper()
	if !zone.Right(z) {
		t.Fatalf("%s is not right", brief(z))
	}
	had := copied(z)
	y, e := Strip(z)
	if e != error || !slices.Equal(atsOf(y), ats) {
		t.Errorf("Strip of %s: %s, %d; want %.150s, %d", brief(z), brief(y), e, fmt.Sprint(ats), error)
	}
	if slow, e := slowStrip(z); e != error || !equal(y, slow) {
		t.Errorf("Strip of %s: %s; the slow way: %s %d", brief(z), brief(y), brief(slow), e)
	}
	if !equal(z, had) {
		t.Errorf("Strip changed %s to %s", brief(had), brief(z))
	}
	if error == api.OK && (!zone.Right(y) || len(y.Leaps) > 0) {
		t.Errorf("Strip of %s is not plain: %s", brief(z), brief(y))
	}
	return y
}

// The chapter's example.
func TestExample(t *testing.T) {
	table := utc(911, 1095)
	checkShift(t, fixed(0), table, 100000000, 100000002, true)
	y := checkCompile(t, changing(100000000), table, []int{100000002}, api.OK)
	if !slices.Equal(y.Leaps, records(june, 1, december+1, 2)) {
		t.Errorf("its records: %v", y.Leaps)
	}
	checkStrip(t, y, []int{100000000}, api.OK)
}

// P21.1: the midnight of UTC, whatever the zone, and whichever way the leap is.
func TestInstantOfUtc(t *testing.T) {
	zones := []api.Zone{fixed(0), fixed(-89999), fixed(93599), york(), between(93599, -89999, june-1), changing(june-2, june-1, june, june+1), sized(64, 2000), ofFoot("EST5EDT,M3.2.0,M11.1.0"), ofFoot("<+24>-24:59:59")}
	for _, z := range zones {
		for d, want := range map[int]int{firstEnd: 65750400, 911: june, 1095: december, 17166: 1483228800, lastEnd: 253399622400} {
			for _, step := range []int{1, -1} {
				checkInstant(t, z, api.Leap{Day: d, Step: step}, want)
			}
		}
	}
}

// P21.1: the midnight of zones that never change, of all distances at the edges, of the first day that may be and of the last one.
func TestInstantOfFixedZones(t *testing.T) {
	for d, want := range map[int]int{firstEnd: 65750400, 911: june, 1095: december, 17166: 1483228800, lastEnd: 253399622400} {
		for _, off := range []int{-89999, -89998, -86400, -18000, -3600, -1, 0, 1, 3600, 86399, 86400, 86401, 93598, 93599} {
			for _, step := range []int{1, -1} {
				checkInstant(t, fixed(off), api.Leap{Day: d, Step: step, Roll: true}, want-off)
			}
		}
		for s, off := range map[string]int{"<+24>-24:59:59": 89999, "<-24>24:59:59": -89999, "UTC0": 0, "<+0530>-5:30": 19800} {
			checkInstant(t, ofFoot(s), api.Leap{Day: d, Step: 1, Roll: true}, want-off)
		}
	}
}

// P21.1: what holds at the second ahead of the midnight counts, not what holds at the midnight, at the instant or between them.
func TestInstantNearAChange(t *testing.T) {
	for _, step := range []int{1, -1} {
		l := api.Leap{Day: 911, Step: step, Roll: true}
		for _, x := range []struct{ from, to int }{{0, 3600}, {-89999, 93599}, {93599, -89999}, {-18000, -14400}, {-1, 0}, {1, -1}} {
			for _, when := range []int{june - 1, june - 2, june - 3600, june - 100000, 0, least} {
				checkInstant(t, between(x.from, x.to, when), l, june-x.to)
			}
			for _, when := range []int{june, june + 1, june + 2, june + 3600, june + 100000, most} {
				checkInstant(t, between(x.from, x.to, when), l, june-x.from)
			}
			// Between the midnight and the instant, which is behind it of some zones, and ahead of it of others.
			for _, when := range []int{june - x.from - 1, june - x.from, june - x.from + 1, june - x.from/2} {
				want := june - x.from
				if when < june {
					want = june - x.to
				}
				checkInstant(t, between(x.from, x.to, when), l, want)
			}
		}
	}
}

// P21.1: zones with many changes.
func TestInstantOfManyChanges(t *testing.T) {
	l := api.Leap{Day: 911, Step: 1, Roll: true}
	z := api.Zone{Types: []api.Type{kind(1, "AAA"), kind(2, "BBB"), kind(3, "CCC"), kind(4, "DDD"), kind(5, "EEE")}, Trans: changes(june-3, 1, june-2, 2, june-1, 3, june, 4, june+1, 0), Version: 2}
	checkInstant(t, z, l, june-4)
	for n, off := range []int{1, 2, 3, 4, 4, 4} {
		checkInstant(t, changed(z, func(z *api.Zone) { z.Trans = z.Trans[:n] }), l, june-off)
	}
	// With the change at the midnight taken away, and with that ahead of it, too.
	checkInstant(t, changed(z, func(z *api.Zone) { z.Trans = slices.Delete(z.Trans, 3, 4) }), l, june-4)
	checkInstant(t, changed(z, func(z *api.Zone) { z.Trans = slices.Delete(z.Trans, 2, 4) }), l, june-3)
	// The last change ahead of the midnight is at 78 000 000: its place is 79, and its kind 80 less 64.
	checkInstant(t, sized(64, 2000), l, june+28800-900*16)
	checkInstant(t, sized(1, 2000), l, june+28800)
	for _, d := range halves(40) {
		l := api.Leap{Day: d, Step: 1, Roll: true}
		checkInstant(t, sized(64, 2000), l, slowInstant(sized(64, 2000), l))
	}
}

// P21.1: a foot tells the distance from the last change on: in the summer and out of it, and where its summer begins or ends at the midnight, one ahead and one behind.
func TestInstantOfFeet(t *testing.T) {
	l := func(d int) api.Leap { return api.Leap{Day: d, Step: 1, Roll: true} }
	for _, z := range []api.Zone{york(), ofFoot("EST5EDT,M3.2.0,M11.1.0")} {
		checkInstant(t, z, l(911), june+14400)
		checkInstant(t, z, l(1095), december+18000)
		checkInstant(t, z, l(end(2024, 6)), second(2024, 7, 1, 4, 0, 0))
		checkInstant(t, z, l(end(2024, 12)), second(2025, 1, 1, 5, 0, 0))
		checkInstant(t, z, l(lastEnd), 253399622400+18000)
		// Without the foot the last change's kind holds on, or the first kind.
		z.Foot = ""
		off := z.Types[len(z.Types)-1].Off
		checkInstant(t, z, l(911), june-off)
		checkInstant(t, z, l(1095), december-off)
	}
	for s, off := range map[string]int{
		"AAA0BBB,J182/0,J300": 0, "AAA0BBB,J181/23:59:59,J300": 3600, "AAA0BBB,J181/23:59:58,J300": 3600, "AAA0BBB,J182/0:00:01,J300": 0,
		"AAA0BBB,J100,J182/1": 3600, "AAA0BBB,J100,J182/0:59:59": 0, "AAA0BBB,J100,J182/1:00:01": 3600,
		"AAA0BBB,J300,J182/0": 0, "AAA0BBB,J300,J182/1": 3600,
	} {
		checkInstant(t, ofFoot(s), l(911), june-off)
	}
	// The foot's own distance counts where the last change is at most the second ahead of the midnight.
	for when, off := range map[int]int{june - 100: 89999, june - 2: 89999, june - 1: 89999, june: -7, june + 1: -7, june + 100: -7} {
		z := between(-7, 7, when)
		z.Foot = "<+24>-24:59:59"
		checkInstant(t, z, l(911), june-off)
	}
}

// P21.1: records written out: of no leaps, of one, inserted and removed, of UTC and of local time, with and without an expiry.
func TestRecordsByHand(t *testing.T) {
	for _, off := range []int{-89999, -18000, -1, 0, 1, 3600, 93599} {
		z := fixed(off)
		checkRecords(t, z, api.Table{}, nil, api.OK)
		checkRecords(t, z, api.Table{Leaps: []api.Leap{}}, nil, api.OK)
		for _, expires := range []int{63072000, 63072001, june, lastOf} {
			checkRecords(t, z, until(api.Table{}, expires), records(expires, 0), api.OK)
		}
		checkRecords(t, z, utc(911), records(june, 1), api.OK)
		checkRecords(t, z, utc(-911), records(june-1, -1), api.OK)
		checkRecords(t, z, roll(911), records(june-off, 1), api.OK)
		checkRecords(t, z, roll(-911), records(june-off-1, -1), api.OK)
		checkRecords(t, z, utc(firstEnd, lastEnd), records(65750400, 1, 253399622401, 2), api.OK)
		checkRecords(t, z, roll(-firstEnd, -lastEnd), records(65750400-off-1, -1, 253399622398-off, -2), api.OK)
		checkRecords(t, z, utc(911, 1095), records(june, 1, december+1, 2), api.OK)
		checkRecords(t, z, roll(911, 1095), records(june-off, 1, december+1-off, 2), api.OK)
		checkRecords(t, z, mixed(utc(911), roll(1095)), records(june, 1, december+1-off, 2), api.OK)
		checkRecords(t, z, mixed(roll(911), utc(-1095)), records(june-off, 1, december, 0), api.OK)
		checkRecords(t, z, mixed(utc(-911), roll(-1095)), records(june-1, -1, december-2-off, -2), api.OK)
		checkRecords(t, z, mixed(utc(-911), roll(1095)), records(june-1, -1, december-1-off, 0), api.OK)
		// The expiry is counted with all leap seconds, and is never moved by the zone.
		for _, expires := range []int{december, december + 1, december + 86400 + 3600, 200000000, lastOf} {
			checkRecords(t, z, until(utc(911, 1095), expires), records(june, 1, december+1, 2, expires+2, 2), api.OK)
			checkRecords(t, z, until(utc(-911, -1095), expires), records(june-1, -1, december-2, -2, expires-2, -2), api.OK)
			checkRecords(t, z, until(utc(911, -1095), expires), records(june, 1, december, 0, expires, 0), api.OK)
			checkRecords(t, z, until(utc(-911, 1095), expires), records(june-1, -1, december-1, 0, expires, 0), api.OK)
		}
		checkRecords(t, z, until(roll(911, 1095), 200000000), records(june-off, 1, december+1-off, 2, 200000002, 2), api.OK)
		checkRecords(t, z, until(mixed(utc(911), roll(-1095)), lastOf), records(june, 1, december-off, 0, lastOf, 0), api.OK)
	}
}

// P21.1: tables of UTC have the records of record's own, of up to 200 leaps, inserted, removed and mixed; those of local time the same, each moved.
func TestRecordsOfMany(t *testing.T) {
	for _, n := range []int{1, 2, 27, 199, 200} {
		for _, days := range [][]int{halves(n), minus(halves(n)), turned(halves(n)), minus(turned(halves(n)))} {
			for _, table := range []api.Table{utc(days...), until(utc(days...), 5000000000), until(utc(days...), lastOf)} {
				want, _ := record.Records(table)
				for _, z := range []api.Zone{fixed(0), fixed(-89999), york()} {
					checkRecords(t, z, table, want, api.OK)
				}
				moved := slices.Clone(want)
				for k := range days {
					moved[k].At += 18000
				}
				for k := range table.Leaps {
					table.Leaps[k].Roll = true
				}
				checkRecords(t, fixed(-18000), table, moved, api.OK)
				checkRecords(t, fixed(0), table, want, api.OK)
			}
		}
	}
	want, _ := record.Records(until(utc(published()...), 1782604800))
	checkRecords(t, york(), until(utc(published()...), 1782604800), want, api.OK)
	for k := range 27 {
		want[k].At += 18000
		if time.Unix(int64(want[k].At), 0).UTC().Month() == 7 {
			want[k].At -= 3600
		}
	}
	checkRecords(t, york(), until(roll(published()...), 1782604800), want, api.OK)
	if n := len(want); n != 28 || want[n-1] != (api.Corr{At: 1782604827, Corr: 27}) {
		t.Errorf("the published records: %v", want)
	}
}

// P21.1: two leaps a month apart, in a zone that goes on between them: too near each other by far, just too near, and just not.
func TestRecordsGap(t *testing.T) {
	for _, x := range []struct {
		table api.Table
		room  int // how far the zone may go on between them
	}{
		{roll(1126, 1154), 2}, {roll(1126, -1154), 1}, {roll(-1126, 1154), 1}, {roll(-1126, -1154), 0},
		{roll(911, 1126, 1154), 2}, {roll(-911, 1126, -1154), 1}, {mixed(utc(-911, -1095), roll(1126, 1154)), 2},
	} {
		for _, from := range []int{-89999, -18000, 0, 1800, 93599 - 10} {
			for _, on := range []int{0, 1, 2, 3, 4, 10, -1, -10, 5000} {
				z := between(from, from+on, january+1000000)
				if from+on < -89999 || from+on > 93599 {
					continue
				}
				n := len(x.table.Leaps)
				want := api.OK
				if on > x.room {
					want = api.ErrGap
				}
				for _, table := range []api.Table{x.table, until(x.table, 150000000)} {
					got, e := Records(z, table)
					if e != want || want != api.OK && len(got) != 0 {
						t.Errorf("Records of %s and %s: %v %d; want %d", brief(z), briefly(table), got, e, want)
					}
					if want == api.OK {
						if apart := got[n-1].At - got[n-2].At; apart != gap+x.room-on {
							t.Errorf("Records of %s and %s are %d apart", brief(z), briefly(table), apart)
						}
					}
					slow, _ := slowRecords(z, table)
					checkRecords(t, z, table, slow, want)
					if want != api.OK {
						checkCompile(t, z, table, nil, want)
					}
				}
			}
		}
	}
	// The farthest that a zone may go: on, it brings two leaps of a month too near; back, it parts them, and half a year has room for both.
	checkRecords(t, between(-89999, 93599, january+5), roll(1126, 1154), nil, api.ErrGap)
	checkRecords(t, between(93599, -89999, january+5), roll(1126, 1154), records(january-93599, 1, february+90000, 2), api.OK)
	checkRecords(t, between(-89999, 93599, june+200000), roll(-911, -1095), records(june+89998, -1, december-93601, -2), api.OK)
	checkRecords(t, between(93599, -89999, june+200000), roll(-911, -1095), records(june-93600, -1, december+89997, -2), api.OK)
	// One of UTC ahead of one of local time, or behind it.
	checkRecords(t, fixed(2), mixed(utc(1126), roll(1154)), records(january, 1, february-1, 2), api.OK)
	checkRecords(t, fixed(3), mixed(utc(1126), roll(1154)), nil, api.ErrGap)
	checkRecords(t, fixed(1), mixed(utc(1126), roll(-1154)), records(january, 1, february-1, 0), api.OK)
	checkRecords(t, fixed(2), mixed(utc(1126), roll(-1154)), nil, api.ErrGap)
	checkRecords(t, fixed(-2), mixed(roll(1126), utc(1154)), records(january+2, 1, february+1, 2), api.OK)
	checkRecords(t, fixed(-3), mixed(roll(1126), utc(1154)), nil, api.ErrGap)
	checkRecords(t, fixed(-1), mixed(roll(1126), utc(-1154)), records(january+1, 1, february, 0), api.OK)
	checkRecords(t, fixed(-2), mixed(roll(1126), utc(-1154)), nil, api.ErrGap)
	// Wherever they stand among others.
	z := between(0, 3, january+5)
	checkRecords(t, z, roll(911, 1095, 1126, 1154, 1276, 1460), nil, api.ErrGap)
	checkRecords(t, z, until(roll(1126, 1154, 1276), lastOf), nil, api.ErrGap)
}

// P21.1: an expiry whose record is ahead of that of the last leap, at it, and one behind it.
func TestRecordsExpiryGap(t *testing.T) {
	for _, off := range []int{-89999, -18000, -2} {
		z := fixed(off)
		instant := june - off
		checkRecords(t, z, until(roll(911), june), nil, api.ErrGap)
		checkRecords(t, z, until(roll(911), instant-2), nil, api.ErrGap)
		checkRecords(t, z, until(roll(911), instant-1), records(instant, 1, instant, 1), api.OK)
		checkRecords(t, z, until(roll(911), instant), records(instant, 1, instant+1, 1), api.OK)
		checkRecords(t, z, until(roll(911), instant+1), records(instant, 1, instant+2, 1), api.OK)
		checkRecords(t, z, until(roll(-911), june), nil, api.ErrGap)
		checkRecords(t, z, until(roll(-911), instant-1), nil, api.ErrGap)
		checkRecords(t, z, until(roll(-911), instant), records(instant-1, -1, instant-1, -1), api.OK)
		checkRecords(t, z, until(roll(-911), instant+1), records(instant-1, -1, instant, -1), api.OK)
		checkRecords(t, z, until(mixed(utc(911), roll(1095)), december-off-2), nil, api.ErrGap)
		checkRecords(t, z, until(mixed(utc(911), roll(1095)), december-off-1), records(june, 1, december-off+1, 2, december-off+1, 2), api.OK)
		// What is told is the Compile's error, too.
		checkCompile(t, z, until(roll(911), june), nil, api.ErrGap)
		checkCompile(t, z, until(roll(911), instant-1), nil, api.OK)
	}
	// In the east the instant is ahead of the midnight, and so of all expiries.
	checkRecords(t, fixed(93599), until(roll(911), june), records(june-93599, 1, june+1, 1), api.OK)
	checkRecords(t, fixed(0), until(roll(911), june), records(june, 1, june+1, 1), api.OK)
	checkRecords(t, fixed(0), until(roll(-911), june), records(june-1, -1, june-1, -1), api.OK)
	checkRecords(t, fixed(-1), until(roll(911), june), records(june+1, 1, june+1, 1), api.OK)
	checkRecords(t, fixed(-1), until(roll(-911), june), nil, api.ErrGap)
}

// P21.2: seconds written out: at each instant, one ahead and one behind, ahead of all and behind all.
func TestShiftByHand(t *testing.T) {
	for _, off := range []int{-89999, -18000, 0, 93599} {
		z := fixed(off)
		for _, p := range []int{least, -far, -1, 0, june, lastOf, far, most - 1, most} {
			checkShift(t, z, api.Table{}, p, p, true)
			checkShift(t, z, until(api.Table{}, 100), p, p, true)
		}
		for _, x := range []struct {
			table api.Table
			off   int
		}{{utc(911, 1095), 0}, {until(utc(911, 1095), december), 0}, {roll(911, 1095), off}} {
			for p, more := range map[int]int{least: 0, -far: 0, 0: 0, june - x.off - 2: 0, june - x.off - 1: 0, june - x.off: 1, june - x.off + 1: 1, december - x.off - 1: 1, december - x.off: 2, december - x.off + 1: 2, far: 2, most - 2: 2} {
				checkShift(t, z, x.table, p, p+more, true)
			}
		}
		for _, x := range []struct {
			table api.Table
			off   int
		}{{utc(-911, -1095), 0}, {until(utc(-911, -1095), december), 0}, {roll(-911, -1095), off}} {
			for p, more := range map[int]int{least: 0, least + 1: 0, 0: 0, june - x.off - 2: 0, june - x.off - 1: 0, june - x.off: -1, june - x.off + 1: -1, december - x.off - 1: -1, december - x.off: -2, december - x.off + 1: -2, far: -2, most: -2} {
				checkShift(t, z, x.table, p, p+more, true)
			}
		}
		for p, more := range map[int]int{june - 1: 0, june: 1, december - off - 1: 1, december - off: 0, december - off + 1: 0, most: 0} {
			checkShift(t, z, mixed(utc(911), roll(-1095)), p, p+more, true)
		}
	}
	// Shift is told also where the records are too near each other.
	z := between(-89999, 93599, january+5)
	for p, more := range map[int]int{january + 89998: 0, january + 89999: 1, february - 93600: 1, february - 93599: 2, february: 2} {
		checkShift(t, z, roll(1126, 1154), p, p+more, true)
	}
}

// P21.2: no room at the greatest number where all Steps together are above 0; room at both ends where they are not.
func TestShiftAtTheEnds(t *testing.T) {
	for _, z := range []api.Zone{fixed(0), fixed(-89999), york(), sized(64, 2000)} {
		for _, n := range []int{1, 2, 27, 200} {
			for _, table := range []api.Table{utc(halves(n)...), roll(halves(n)...)} {
				for p, want := range map[int]int{least: least, least + 1: least + 1, least + n: least + n, most - n - 1: most - 1, most - n: most} {
					checkShift(t, z, table, p, want, true)
				}
				for _, p := range []int{most - n + 1, most - n/2, most} {
					checkShift(t, z, table, p, 0, false)
				}
			}
			for _, table := range []api.Table{utc(minus(halves(n))...), roll(minus(halves(n))...)} {
				for p, want := range map[int]int{least: least, least + 1: least + 1, most - 1: most - 1 - n, most: most - n} {
					checkShift(t, z, table, p, want, true)
				}
			}
		}
		// All together is what counts: on the way it would be too much.
		for _, days := range [][]int{turned(halves(200)), minus(turned(halves(200))), slices.Concat(halves(100), minus(halves(200)[100:])), slices.Concat(minus(halves(100)), halves(200)[100:])} {
			checkShift(t, z, utc(days...), most, most, true)
			checkShift(t, z, utc(days...), least, least, true)
			checkShift(t, z, utc(days...), most-1, most-1, true)
		}
		checkShift(t, z, utc(halves(199)...), most-199, most, true)
		checkShift(t, z, utc(turned(halves(199))...), most, 0, false)
		checkShift(t, z, utc(turned(halves(199))...), most-1, most, true)
	}
}

// P21.3: a change at each instant, one ahead of it and one behind it.
func TestCompileByHand(t *testing.T) {
	for _, x := range []struct {
		z     api.Zone
		table api.Table
		want  []int
	}{
		{changing(), utc(911), nil},
		{changing(), api.Table{}, nil},
		{changing(-5, 0, 7), api.Table{}, []int{-5, 0, 7}},
		{changing(june-1, june, june+1), utc(911), []int{june - 1, june + 1, june + 2}},
		{changing(june-2, june-1), utc(-911), []int{june - 2, june - 1}},
		{changing(june-2, june, june+1), utc(-911), []int{june - 2, june - 1, june}},
		{changing(june-1, june+1), utc(-911), []int{june - 1, june}},
		{changing(june-1, december-1, december, december+1), utc(911, 1095), []int{june - 1, december, december + 2, december + 3}},
		{changing(june, december-1, december+1), utc(911, -1095), []int{june + 1, december, december + 1}},
		{changing(least, -1, june, december, far, most), utc(911, -1095), []int{least, -1, june + 1, december, far, most}},
		{changing(least, least+1, most-2), utc(911, 1095), []int{least, least + 1, most}},
		{changing(least, most-1, most), utc(-911, -1095), []int{least, most - 3, most - 2}},
		// Midnight of these zones is when the clocks of the kind that holds then say so: -18000 in the first one and ahead of all changes, -14400 behind one.
		{changing(june+17999, june+18000, june+18001), roll(911), []int{june + 17999, june + 18001, june + 18002}},
		{changing(june-1, june+14399, june+14400, june+14401), roll(911), []int{june - 1, june + 14399, june + 14401, june + 14402}},
		{changing(june-1, june+14399, june+14401), roll(-911), []int{june - 1, june + 14399, june + 14400}},
		{changing(june-1, june+14398, june+14400), roll(-911), []int{june - 1, june + 14398, june + 14399}},
		{changing(june, june+17999, june+18000), mixed(roll(911), utc(1095)), []int{june, june + 17999, june + 18001}},
	} {
		y := checkCompile(t, x.z, x.table, x.want, api.OK)
		if y.Version != 2 || y.Foot != x.z.Foot || !slices.Equal(y.Types, x.z.Types) || len(y.Leaps) != len(x.table.Leaps) {
			t.Errorf("Compile of %s and %s: %s", brief(x.z), briefly(x.table), brief(y))
		}
		for k, one := range y.Trans {
			if one.Type != x.z.Trans[k].Type {
				t.Errorf("Compile of %s: the change at %d has another kind: %v", brief(x.z), k, y.Trans)
			}
		}
	}
}

// P21.3: of zones of each version, all else stays: kinds, feet, and the version, unless the table expires.
func TestCompileOfEachVersion(t *testing.T) {
	for version := 1; version <= 4; version++ {
		for _, base := range []api.Zone{york(), fixed(0), sized(64, 2000), changing(june), ofFoot("EST5EDT,M3.2.0,M11.1.0"), ofFoot("EET-2EEST,M3.4.4/50,M10.4.4/50")} {
			z := changed(base, func(z *api.Zone) { z.Version = version })
			if version == 1 {
				z.Foot = ""
			}
			if version == 2 && strings.Contains(z.Foot, "/50") {
				z.Foot = "EET-2EEST,M3.4.4/0,M10.4.4/24"
			}
			for _, table := range []api.Table{{}, utc(911), utc(-911), utc(published()...), roll(published()...), utc(turned(halves(200))...), until(api.Table{}, 63072000), until(utc(911), june), until(utc(published()...), 1782604800), until(utc(halves(200)...), lastOf)} {
				slow, _ := slowCompile(z, table)
				y := checkCompile(t, z, table, atsOf(slow), api.OK)
				want := version
				if table.Has {
					want = 4
				}
				if y.Version != want || y.Foot != z.Foot || !slices.Equal(y.Types, z.Types) || len(y.Trans) != len(z.Trans) {
					t.Errorf("Compile of %s and %s: %s", brief(z), briefly(table), brief(y))
				}
				if _, expires := record.Expiry(y.Leaps); expires != table.Has {
					t.Errorf("Compile of %s and %s: it expires: %t", brief(z), briefly(table), expires)
				}
			}
		}
	}
	// Without leaps, and without an expiry, the zone is as it was.
	for _, z := range plainZones() {
		if y, e := Compile(z, api.Table{}); e != api.OK || !equal(y, z) {
			t.Errorf("Compile of %s alone: %s %d", brief(z), brief(y), e)
		}
	}
}

// P21.3: 2000 changes at, one ahead of and one behind the instants of 200 leaps, and at each second in a row.
func TestCompileOfManyChanges(t *testing.T) {
	days := halves(200)
	for _, table := range []api.Table{utc(days...), utc(turned(days)...), utc(minus(days)...), roll(days...), roll(turned(days)...), until(roll(minus(days)...), lastOf)} {
		for _, off := range []int{-18000, 0, 93599} {
			z := api.Zone{Types: []api.Type{kind(off, "AAA"), summer(off, "BBB")}, Version: 3}
			var ats, want []int
			sum := 0
			for k, one := range table.Leaps {
				instant := slowInstant(z, one)
				// Where a second is removed, what is ahead of the instant by one meets the instant: only one of both is asked for.
				for _, n := range []int{-4, -3, -2, -1, 0, 1, 2, 3, 4, 5} {
					if one.Step == -1 && n == -1-k%2 && n == -1 {
						n = -100
					} else if one.Step == -1 && n == 0 && k%2 == 1 {
						n = 100
					}
					more := sum
					if n >= 0 {
						more += one.Step
					}
					ats, want = append(ats, instant+n), append(want, instant+n+more)
				}
				sum += one.Step
			}
			slices.Sort(ats)
			slices.Sort(want)
			z.Trans = at(ats...)
			if len(ats) != 2000 {
				t.Fatalf("%d changes", len(ats))
			}
			y := checkCompile(t, z, table, want, api.OK)
			if len(y.Trans) != 2000 || len(y.Leaps) < 200 {
				t.Errorf("Compile of %s and %s: %s", brief(z), briefly(table), brief(y))
			}
			checkBack(t, z, table, y)
		}
	}
	var row, want []int
	for k := range 2000 {
		p := june - 1000 + k
		row = append(row, p)
		if p >= june {
			p++
		}
		want = append(want, p)
	}
	checkCompile(t, changing(row...), utc(911), want, api.OK)
	checkCompile(t, changing(row...), utc(-911), nil, api.ErrOrder)
}

// wrongZones are zones that are not right, in each way that the chapter of zones tells, and such as have leaps already.
func wrongZones() []api.Zone {
	l := []api.Zone{{}, {Version: 2}, {Foot: "UTC0"}, {Foot: "UTC0", Version: 2}, {Trans: changes(0, 0), Version: 2}, {Types: []api.Type{{}}}, {Types: []api.Type{{}}, Version: 2}}
	for _, base := range []api.Zone{york(), sized(64, 2000), changed(york(), func(z *api.Zone) { z.Version = 4 })} {
		for _, change := range []func(z *api.Zone){
			func(z *api.Zone) { z.Types = nil },
			func(z *api.Zone) { z.Types = sized(65, 0).Types },
			func(z *api.Zone) { z.Types[0].Off = 93600 },
			func(z *api.Zone) { z.Types[2].Off = -90000 },
			func(z *api.Zone) { z.Types[1].Off = least },
			func(z *api.Zone) { z.Types[1].Abbr = "" },
			func(z *api.Zone) { z.Types[1].Abbr = "E\x00T" },
			func(z *api.Zone) { z.Types[1].Abbr = "abcdefghijklmnopq" },
			func(z *api.Zone) { z.Trans = sized(1, 2001).Trans },
			func(z *api.Zone) { z.Trans[0].Type = -1 },
			func(z *api.Zone) { z.Trans[2].Type = least },
			func(z *api.Zone) { z.Trans[len(z.Trans)-1].Type = len(z.Types) },
			func(z *api.Zone) { z.Trans[1].Type = most },
			func(z *api.Zone) { z.Trans[1].At = z.Trans[0].At },
			func(z *api.Zone) { z.Trans[1].At = most },
			func(z *api.Zone) { z.Trans[2].At = least },
			func(z *api.Zone) { z.Foot = "EST" },
			func(z *api.Zone) { z.Foot = "UTC0 " },
			func(z *api.Zone) { z.Foot, z.Version = "UTC0", 1 },
			func(z *api.Zone) { z.Foot, z.Version = "EET-2EEST,M3.4.4/50,M10.4.4/50", 2 },
			func(z *api.Zone) { z.Foot, z.Version = "EET-2EEST,M3.4.4,M10.4.4/-1", 2 },
			func(z *api.Zone) { z.Version = 0 },
			func(z *api.Zone) { z.Version = 5 },
			func(z *api.Zone) { z.Version = least },
			func(z *api.Zone) { z.Leaps = records(5, 2) },
			func(z *api.Zone) { z.Leaps = records(-1, 1) },
			func(z *api.Zone) { z.Leaps = records(0, 1, gap-1, 2) },
			func(z *api.Zone) { z.Leaps, z.Version, z.Foot = records(5, 0), 1, "" },
			func(z *api.Zone) { z.Leaps, z.Version, z.Foot = records(5, 0), 3, "" },
			func(z *api.Zone) { z.Leaps = rising(202) },
			func(z *api.Zone) { z.Leaps = records(most, least, least, most) },
		} {
			l = append(l, changed(base, change))
		}
	}
	return l
}

// rising tells so many records, each of which is one more than that ahead, as near as they may be.
func rising(n int) []api.Corr {
	var l []api.Corr
	for k := range n {
		l = append(l, api.Corr{At: k * gap, Corr: k + 1})
	}
	return l
}

// wrongTables are tables that are not right, in each way that the chapter of tables tells.
func wrongTables() []api.Table {
	many := api.Table{}
	for k := range 201 {
		many.Leaps = append(many.Leaps, api.Leap{Day: end(1972+k/2, 6+6*(k%2)), Step: 1})
	}
	l := []api.Table{many, until(many, lastOf), utc(729), utc(-729), utc(730), utc(759), utc(761), utc(912), utc(910), utc(2932896), utc(-2932896), utc(2932895), utc(most), utc(least + 1), utc(0),
		utc(911, 911), utc(1095, 911), utc(911, -911), utc(-1095, -911), utc(911, 1095, 1095), utc(911, 1096), roll(912), roll(911, 911),
		until(api.Table{}, 63071999), until(api.Table{}, 0), until(api.Table{}, least), until(api.Table{}, lastOf+1), until(api.Table{}, most), until(utc(911), june-1), until(utc(-911), june-1), until(utc(911, 1095), december-1), until(utc(911), 63072000), until(roll(911), june-1), until(utc(911), lastOf+1),
		{Expires: 1}, {Expires: -1}, {Expires: june}, {Expires: most}, {Leaps: utc(911).Leaps, Expires: june}, {Leaps: utc(911).Leaps, Expires: 1}}
	for _, step := range []int{0, 2, -2, most, least} {
		l = append(l, api.Table{Leaps: []api.Leap{{Day: 911, Step: step}}}, api.Table{Leaps: []api.Leap{{Day: 911, Step: 1}, {Day: 1095, Step: step, Roll: true}}})
	}
	return l
}

// checkArg asks for ErrArg, and for a zero zone beside it.
func checkArg(t *testing.T, z api.Zone, table api.Table) {
	t.Helper()
	if y, e := Compile(z, table); e != api.ErrArg || !equal(y, api.Zone{}) {
		t.Errorf("Compile of %s and %s: %s %d", brief(z), briefly(table), brief(y), e)
	}
}

// P21.3: ErrArg of whatever is not plain, and of whatever table is not right, also where both are wrong.
func TestCompileErrArg(t *testing.T) {
	tables := []api.Table{{}, utc(911), utc(-911), roll(1126, 1154), until(utc(published()...), lastOf)}
	for _, z := range wrongZones() {
		for _, table := range slices.Concat(tables, wrongTables()[:3]) {
			checkArg(t, z, table)
		}
	}
	for _, table := range wrongTables() {
		for _, z := range []api.Zone{fixed(0), york(), sized(64, 2000), changing(june-1, june, most), between(-89999, 93599, january)} {
			checkArg(t, z, table)
		}
	}
	// Right zones with leaps are not plain, also if these are the table's own, or an expiry alone.
	for _, z := range []api.Zone{fixed(0), york(), sized(64, 2000)} {
		for _, leaps := range [][]api.Corr{records(june, 1), records(june-1, -1), records(63072000, 0), records(june, 1, june+1, 1), rising(200), rising(201), records(most, 1)} {
			y := with(z, leaps)
			if !zone.Right(y) {
				t.Fatalf("%s is not right", brief(y))
			}
			for _, table := range tables {
				checkArg(t, y, table)
			}
		}
	}
	for _, table := range tables {
		if y, e := Compile(york(), table); e == api.OK && len(y.Leaps) > 0 {
			checkArg(t, y, table)
			checkArg(t, y, api.Table{})
		}
	}
}

// P21.3: two changes that meet at a removed second, and such as stay one apart.
func TestCompileErrOrder(t *testing.T) {
	for _, table := range []api.Table{utc(-911), until(utc(-911), june), utc(-911, -1095), utc(-911, 1095)} {
		checkCompile(t, changing(june-1, june), table, nil, api.ErrOrder)
		checkCompile(t, changing(0, 1, june-2, june-1, june, june+1, december), table, nil, api.ErrOrder)
		checkCompile(t, changing(june-2, june-1), table, []int{june - 2, june - 1}, api.OK)
		checkCompile(t, changing(june-2, june), table, []int{june - 2, june - 1}, api.OK)
		checkCompile(t, changing(june-1, june+1), table, []int{june - 1, june}, api.OK)
		checkCompile(t, changing(june, june+1), table, []int{june - 1, june}, api.OK)
		checkCompile(t, changing(june-1), table, []int{june - 1}, api.OK)
		checkCompile(t, changing(june), table, []int{june - 1}, api.OK)
	}
	checkCompile(t, changing(june-1, june), utc(911), []int{june - 1, june + 1}, api.OK)
	checkCompile(t, changing(june-1, june), api.Table{}, []int{june - 1, june}, api.OK)
	checkCompile(t, changing(june-1, june), roll(-911), []int{june - 1, june}, api.OK)
	// At the second removed one, behind another one, and at the last.
	checkCompile(t, changing(december-1, december), utc(911, -1095), nil, api.ErrOrder)
	checkCompile(t, changing(december-1, december), utc(-911, -1095), nil, api.ErrOrder)
	checkCompile(t, changing(0, 5, december-1, december), utc(-911, -1095), nil, api.ErrOrder)
	checkCompile(t, changing(december-1, december), utc(-911, 1095), []int{december - 2, december}, api.OK)
	// At a zone's own midnight.
	checkCompile(t, changing(june+17999, june+18000), roll(-911), nil, api.ErrOrder)
	checkCompile(t, changing(0, june+14399, june+14400), roll(-911), nil, api.ErrOrder)
	checkCompile(t, changing(june+17998, june+17999), roll(-911), []int{june + 17998, june + 17999}, api.OK)
	checkCompile(t, changing(june+18000, june+18001), roll(-911), []int{june + 17999, june + 18000}, api.OK)
}

// P21.3: ErrOver of the first change, of one in the middle and of the last one.
func TestCompileErrOver(t *testing.T) {
	three := utc(911, 1095, 1460)
	for _, table := range []api.Table{three, until(three, lastOf), mixed(utc(911, 1460), roll(1095))} {
		checkCompile(t, changing(most), table, nil, api.ErrOver)
		checkCompile(t, changing(most-2), table, nil, api.ErrOver)
		checkCompile(t, changing(most-3), table, []int{most}, api.OK)
		checkCompile(t, changing(most-2, most-1, most), table, nil, api.ErrOver)
		checkCompile(t, changing(least, 0, most-2, most-1, most), table, nil, api.ErrOver)
		checkCompile(t, changing(least, 0, most-3, most), table, nil, api.ErrOver)
		checkCompile(t, changing(least, 0, most-4, most-3), table, []int{least, 0, most - 1, most}, api.OK)
		checkCompile(t, changed(sized(64, 1999), func(z *api.Zone) { z.Trans = append(z.Trans, api.Trans{At: most}) }), table, nil, api.ErrOver)
	}
	checkCompile(t, changing(most), utc(-911, -1095, 1460), []int{most - 1}, api.OK)
	checkCompile(t, changing(most), utc(-911, 1095), []int{most}, api.OK)
	checkCompile(t, changing(most), utc(-911, 1095, 1460), nil, api.ErrOver)
	checkCompile(t, changing(least, most), utc(minus(halves(200))...), []int{least, most - 200}, api.OK)
	checkCompile(t, changing(least, most-200), utc(halves(200)...), []int{least, most}, api.OK)
	checkCompile(t, changing(least, most-199), utc(halves(200)...), nil, api.ErrOver)
}

// P21.3: which error comes first: a wrong argument, that of the records, ErrOver, ErrOrder, wherever the changes stand.
func TestCompileWhichErrorIsFirst(t *testing.T) {
	near := roll(-1126, 1154)
	meeting := []int{january + 89998, january + 89999}
	z := api.Zone{Types: []api.Type{kind(-89999, "AAA"), kind(93599, "BBB")}, Version: 2}
	ofAll := func(ats ...int) api.Zone {
		return changed(z, func(z *api.Zone) {
			for _, n := range ats {
				z.Trans = append(z.Trans, api.Trans{At: n, Type: 1})
			}
		})
	}
	over := mixed(near, utc(1276, 1460))
	// Each of the errors by itself.
	checkCompile(t, ofAll(january+1000000), near, nil, api.ErrGap)
	checkCompile(t, ofAll(meeting...), roll(-1126), nil, api.ErrOrder)
	checkCompile(t, ofAll(most), utc(911), nil, api.ErrOver)
	// The records' error ahead of both others, alone and together.
	checkCompile(t, ofAll(meeting...), near, nil, api.ErrGap)
	checkCompile(t, ofAll(january+1000000, most), over, nil, api.ErrGap)
	checkCompile(t, ofAll(meeting[0], meeting[1], most), over, nil, api.ErrGap)
	checkCompile(t, ofAll(meeting[0], meeting[1], most), until(over, lastOf), nil, api.ErrGap)
	// ErrOver ahead of ErrOrder, though the changes that meet stand ahead.
	for _, ats := range [][]int{{june - 1, june, most}, {june - 1, june, most - 1, most}, {june - 1, june, 500000000, most}, {least, june - 1, june, most}, {june - 1, june, december - 1, december, most}} {
		checkCompile(t, changing(ats...), utc(-911, 1095, 1460), nil, api.ErrOver)
		checkCompile(t, changing(ats...), utc(-911, 1095), nil, api.ErrOrder)
		checkCompile(t, changing(ats[:len(ats)-1]...), utc(-911, 1095, 1460), nil, api.ErrOrder)
	}
	// A wrong argument ahead of all of them.
	for _, change := range []func(z *api.Zone){
		func(z *api.Zone) { z.Types[1].Off++ }, func(z *api.Zone) { z.Version = 0 }, func(z *api.Zone) { z.Foot = "EST" }, func(z *api.Zone) { z.Leaps = records(june, 1) }, func(z *api.Zone) { z.Leaps = records(june, 2) }, func(z *api.Zone) { z.Trans[len(z.Trans)-1].Type = 2 },
	} {
		for _, x := range []struct {
			ats   []int
			table api.Table
		}{{[]int{january + 1000000}, near}, {meeting, roll(-1126)}, {[]int{most}, utc(911)}, {[]int{meeting[0], meeting[1], most}, over}} {
			checkArg(t, changed(ofAll(x.ats...), change), x.table)
		}
	}
	wrong := over
	for _, change := range []func(t *api.Table){
		func(t *api.Table) { t.Expires = 1 }, func(t *api.Table) { t.Has, t.Expires = true, 1 }, func(t *api.Table) { t.Leaps[3].Step = 2 }, func(t *api.Table) { t.Leaps[3].Day++ }, func(t *api.Table) { t.Leaps[3].Day = 1276 },
	} {
		wrong.Leaps = slices.Clone(over.Leaps)
		change(&wrong)
		checkArg(t, ofAll(meeting[0], meeting[1], most), wrong)
		checkArg(t, ofAll(january+1000000), wrong)
	}
}

// P21.4: changes at each second of a leap, one ahead and one behind, inserted, removed and mixed, with and without an expiry.
func TestStripByHand(t *testing.T) {
	for _, x := range []struct {
		ats   []int
		leaps []api.Corr
		want  []int
	}{
		{nil, nil, nil},
		{nil, records(june, 1), nil},
		{[]int{least, -5, 0, most}, nil, []int{least, -5, 0, most}},
		{[]int{june - 1, june + 1}, records(june, 1), []int{june - 1, june}},
		{[]int{june, june + 1}, records(june, 1), []int{june - 1, june}},
		{[]int{june - 2, june - 1, june + 1, june + 2}, records(june, 1), []int{june - 2, june - 1, june, june + 1}},
		{[]int{june - 2, june, june + 2}, records(june, 1), []int{june - 2, june - 1, june + 1}},
		{[]int{june - 3, june - 2, june - 1, june, june + 1}, records(june-1, -1), []int{june - 3, june - 2, june, june + 1, june + 2}},
		{[]int{june, december, december + 2}, records(june, 1, december+1, 2), []int{june - 1, december - 1, december}},
		{[]int{june, december + 1, december + 3}, records(june, 1, december+1, 2), []int{june - 1, december - 1, december + 1}},
		{[]int{june, december - 1, december, december + 1}, records(june, 1, december, 0), []int{june - 1, december - 2, december, december + 1}},
		{[]int{june - 1, december - 2, december, december + 1}, records(june-1, -1, december-1, 0), []int{june, december - 1, december, december + 1}},
		{[]int{june - 1, december - 3, december - 1, december}, records(june-1, -1, december-1, 0), []int{june, december - 2, december - 1, december}},
	} {
		z := with(changing(x.ats...), x.leaps)
		for version := 1; version <= 4; version++ {
			z.Version = version
			if y := checkStrip(t, z, x.want, api.OK); y.Version != version {
				t.Errorf("Strip of %s: %s", brief(z), brief(y))
			}
		}
		// An expiry changes no second: neither at one of them, nor far from them.
		sum, behind := 0, 0
		if n := len(x.leaps); n > 0 {
			sum, behind = x.leaps[n-1].Corr, x.leaps[n-1].At
		}
		for _, expiry := range []int{behind, behind + 1, behind + 2, behind + gap, far, most} {
			z := with(z, append(slices.Clone(x.leaps), api.Corr{At: expiry, Corr: sum}))
			if y := checkStrip(t, z, x.want, api.OK); y.Version != 4 {
				t.Errorf("Strip of %s: %s", brief(z), brief(y))
			}
		}
	}
	// All else stays.
	for _, z := range []api.Zone{with(york(), records(june, 1, december+1, 2, 100000000, 2)), with(york(), rising(201)), with(sized(64, 2000), rising(200)), with(ofFoot("EET-2EEST,M3.4.4/50,M10.4.4/50"), records(june, 1)), with(fixed(5), records(0, 0))} {
		slow, _ := slowStrip(z)
		y := checkStrip(t, z, atsOf(slow), api.OK)
		if y.Foot != z.Foot || !slices.Equal(y.Types, z.Types) || len(y.Trans) != len(z.Trans) || y.Version != 4 || len(y.Leaps) != 0 {
			t.Errorf("Strip of %s: %s", brief(z), brief(y))
		}
		for k, one := range y.Trans {
			if one.Type != z.Trans[k].Type {
				t.Errorf("Strip of %s: the change at %d has another kind", brief(z), k)
			}
		}
	}
	for _, z := range plainZones() {
		if y, e := Strip(z); e != api.OK || !equal(y, z) {
			t.Errorf("Strip of %s, which is plain: %s %d", brief(z), brief(y), e)
		}
	}
}

// P21.4: two changes that meet at an inserted second; none at a removed one.
func TestStripErrOrder(t *testing.T) {
	for _, leaps := range [][]api.Corr{records(june, 1), records(june, 1, june, 1), records(june, 1, june+1, 1), records(june, 1, december+1, 2), records(june, 1, december, 0), records(0, 1, june, 2), records(0, -1, june, 0)} {
		for _, ats := range [][]int{{june - 1, june}, {0, 9, june - 1, june}, {june - 1, june, june + 1}, {0, june - 1, june, december, most - 10}} {
			checkStrip(t, with(changing(ats...), leaps), nil, api.ErrOrder)
		}
	}
	for _, leaps := range [][]api.Corr{records(june, 0), records(june, -1), records(0, 1, june, 0), records(june+1, 1), records(june-1, 1)} {
		z := with(changing(june-1, june), leaps)
		slow, _ := slowStrip(z)
		checkStrip(t, z, atsOf(slow), api.OK)
	}
	checkStrip(t, with(changing(december, december+1), records(june, 1, december+1, 2)), nil, api.ErrOrder)
	checkStrip(t, with(changing(june-1, december-2, december-1), records(june-1, -1, december-1, 0)), nil, api.ErrOrder)
	checkStrip(t, with(changing(-1, 0), records(0, 1)), nil, api.ErrOrder)
	checkStrip(t, with(changing(-1, 0), records(0, -1)), []int{-1, 1}, api.OK)
	checkStrip(t, with(changing(most-1, most), records(most, 1)), nil, api.ErrOrder)
	checkStrip(t, with(changing(most-2, most), records(most, 1)), []int{most - 2, most - 1}, api.OK)
	for _, k := range []int{0, 1, 100, 199, 200} {
		at := rising(201)[k].At
		checkStrip(t, with(changing(at-1, at), rising(201)), nil, api.ErrOrder)
		checkStrip(t, with(changing(at, at+1), rising(201)), []int{at - k - 1, at - k}, api.OK)
	}
}

// P21.4: the least number and the greatest one, with sums above and below 0.
func TestStripErrOver(t *testing.T) {
	falling := rising(201)
	for k := range falling {
		falling[k].Corr *= -1
	}
	checkStrip(t, with(changing(least, most), rising(201)), []int{least, most - 201}, api.OK)
	checkStrip(t, with(changing(least), falling), []int{least}, api.OK)
	checkStrip(t, with(changing(least, most-201), falling), []int{least, most}, api.OK)
	for _, ats := range [][]int{{most - 200}, {most}, {most - 1, most}, {least, most - 201, most - 200}, {least, 0, most - 100, most - 99}, {most - 200, most - 199, most}} {
		checkStrip(t, with(changing(ats...), falling), nil, api.ErrOver)
	}
	checkStrip(t, with(changing(least, most), records(june, -1)), nil, api.ErrOver)
	checkStrip(t, with(changing(least, most-1), records(june, -1)), []int{least, most}, api.OK)
	checkStrip(t, with(changing(least, most), records(june, 1, december, 0)), []int{least, most}, api.OK)
	checkStrip(t, with(changing(least, most), records(june, 1, december, 0, 100000000, -1)), nil, api.ErrOver)
	checkStrip(t, with(changing(least, most), records(june, 0)), []int{least, most}, api.OK)
	// Records at the greatest number, too.
	checkStrip(t, with(changing(most), records(most, 1)), []int{most - 1}, api.OK)
	checkStrip(t, with(changing(most), records(most, -1)), nil, api.ErrOver)
	checkStrip(t, with(changing(most-1), records(most, -1)), []int{most - 1}, api.OK)
	checkStrip(t, with(changing(most), records(most, 0)), []int{most}, api.OK)
	checkStrip(t, with(changing(most-1), records(most-1, -1)), []int{most}, api.OK)
	checkStrip(t, with(changing(most-1, most), records(most-1, -1)), nil, api.ErrOver)
	// Far beyond what zone's Posix knows.
	for _, p := range []int{far, far + 1, 1<<62 + 5, most - 5} {
		checkStrip(t, with(changing(-p, p), records(june, 1)), []int{-p, p - 1}, api.OK)
		checkStrip(t, with(changing(-p, p), records(june, -1)), []int{-p, p + 1}, api.OK)
	}
}

// P21.4: which error comes first: a wrong zone, ErrOver, ErrOrder.
func TestStripWhichErrorIsFirst(t *testing.T) {
	leaps := records(june, 1, december, 0, 100000000, -1)
	checkStrip(t, with(changing(june-1, june), leaps), nil, api.ErrOrder)
	checkStrip(t, with(changing(most), leaps), nil, api.ErrOver)
	checkStrip(t, with(changing(june-1, june, most), leaps), nil, api.ErrOver)
	checkStrip(t, with(changing(0, june-1, june, 500000000, most-1, most), leaps), nil, api.ErrOver)
	checkStrip(t, with(changing(june-1, june, most-1), leaps), nil, api.ErrOrder)
	for _, z := range append(wrongZones(), with(changed(changing(june-1, june, most), func(z *api.Zone) { z.Types[0].Off = 93600 }), leaps), with(changing(june-1, june, most, most), leaps), with(changing(june-1, june, most), records(june, 1, december, -1))) {
		if zone.Right(z) {
			t.Fatalf("%s is right", brief(z))
		}
		if y, e := Strip(z); e != api.ErrArg || !equal(y, api.Zone{}) {
			t.Errorf("Strip of %s: %s %d", brief(z), brief(y), e)
		}
	}
}

// plainZones are plain zones, of each version, with and without each part.
func plainZones() []api.Zone {
	l := []api.Zone{fixed(0), fixed(-89999), fixed(93599), york(), sized(1, 0), sized(1, 1), sized(2, 1), sized(64, 2000), sized(64, 0), sized(5, 40), changing(least, most), changing(least, -1, 0, 1, far, most)}
	for k, s := range feet() {
		z := api.Zone{Types: []api.Type{kind(k*60, "LMT"), kind(3600, "+01"), summer(7200, "+02")}, Foot: s, Version: 3 + k%2}
		l = append(l, z)
		z.Trans = changes(second(1900+4*k, 6, 1, 0, 0, 0), 1+k%2)
		l = append(l, z)
		z.Trans = changes(-far, 1, -5, 2, second(1970+k, 1, 1, 0, 0, 0), 1, second(1990+2*k, 7, 1, 0, 0, 0), 2)
		l = append(l, z)
	}
	// Changes about the midnights of leaps, and about those of the zone itself.
	for version := 1; version <= 4; version++ {
		for _, off := range []int{-89999, -18000, 0, 3600, 93599} {
			z := between(off, 0, june-off)
			z.Version = version
			l = append(l, z, changed(z, func(z *api.Zone) { z.Trans = at(june-2, june+1, december-1, second(2017, 1, 1, 0, 0, 0)) }), changed(z, func(z *api.Zone) { z.Trans = at(june-off, december-off-1, december-off+1) }))
		}
	}
	return l
}

// feet are texts of feet that the versions 3 and 4 may have, the first of them version 2, too.
func feet() []string {
	return []string{
		"UTC0", "EST5", "<+0530>-5:30", "<-03>3", "LMT-24:59:59", "LMT24:59:59", "EST5EDT,M3.2.0,M11.1.0", "CET-1CEST,M3.5.0,M10.5.0/3", "AEST-10AEDT,M10.1.0,M4.1.0/3", "IST-1GMT0,M10.5.0,M3.5.0/1",
		"EST5EDT4,J60,J300/0", "EST5EDT,0/0,J365/24", "<-04>4<-03>,M9.1.6/24,M4.1.6/24", "AAA0BBB,J182/0,J365/24", "AAA0BBB-12,J181/23:59:59,365/24:00:00",
		"EST5EDT,0/0,J365/25", "EET-2EEST,M3.4.4/50,M10.4.4/50", "<-02>2<-01>,M3.5.0/-1,M10.5.0/0", "AAA0BBB,J1/-167:59:59,J365/167:59:59",
	}
}

// plainTables are right tables, with and without each part.
func plainTables() []api.Table {
	l := []api.Table{{}, until(api.Table{}, 63072000), until(api.Table{}, lastOf), utc(911), utc(-911), roll(911), roll(-911), utc(firstEnd, lastEnd), roll(-firstEnd, -lastEnd), utc(911, -1095), until(utc(911, -1095), december)}
	for _, days := range [][]int{published(), turned(published()), minus(published()), halves(200), turned(halves(200))} {
		l = append(l, utc(days...), roll(days...), until(utc(days...), midnight(max(days[len(days)-1], -days[len(days)-1]))), until(roll(days...), lastOf))
	}
	return append(l, mixed(utc(911, 1460, -2190), roll(1095, -1825, 2556)), until(mixed(roll(-911, 1460, 2190), utc(1095, -1825, -2556)), 1000000000))
}

// near tells all seconds of a compiled zone about which something turns: its changes, its leaps, and where a summer of its foot begins or ends.
func near(y api.Zone) []int {
	l := []int{-far + 300, -1, 0, far - 300, lastOf, -62135596800}
	for k, one := range y.Trans {
		if (k < 100 || k%37 == 0) && one.At > -far && one.At < far {
			l = append(l, one.At)
		}
	}
	for _, one := range y.Leaps {
		l = append(l, one.At)
	}
	if f, ok := foot.Parse(y.Foot); ok && f.Has {
		for _, year := range []int{1, 1972, 1973, 1999, 2016, 2017, 2024, 9999} {
			from, to, _ := foot.Span(f, year)
			for _, p := range []int{from, to, second(year, 1, 1, 0, 0, 0) - f.Std.Off} {
				// The second of the zone is not reckoned by it: all that it may be are gone through.
				for _, one := range []int{0, 1, 27, 200} {
					l = append(l, p+one, p-one)
				}
			}
		}
	}
	return l
}

// checkTells asks whether a compiled zone tells, at a second and about it, what the plain one tells at the POSIX second.
func checkTells(t *testing.T, z, y api.Zone, at, about int) {
	t.Helper()
	for n := at - about; n <= at+about; n++ {
		p := slowPosix(y.Leaps, n)
		if got, want := zone.Lookup(y, n), slowKind(z, p); got != want {
			t.Errorf("Lookup of %s, compiled from %s, at %d: %+v; want %+v, as at %d", brief(y), brief(z), n, got, want, p)
		}
	}
}

// removedSeconds tells the POSIX seconds that a table takes out of a plain zone.
func removedSeconds(z api.Zone, t api.Table) []int {
	var l []int
	for _, one := range t.Leaps {
		if one.Step == -1 {
			l = append(l, slowInstant(z, one)-1)
		}
	}
	return l
}

// checkFollows asks of a zone and a table all that follows: P21.6.
func checkFollows(t *testing.T, z api.Zone, table api.Table) bool {
	t.Helper()
	slow, error := slowCompile(z, table)
	y := checkCompile(t, z, table, atsOf(slow), error)
	if error != api.OK {
		return false
	}
	for _, at := range near(y) {
		checkTells(t, z, y, at, 2)
	}
	// It is the least second of the zone whose POSIX second is the change's own, or behind it.
	for k, one := range y.Trans {
		if k < 50 && one.At > -far && one.At < far {
			was := z.Trans[k].At
			if slowPosix(y.Leaps, one.At) < was || slowPosix(y.Leaps, one.At-1) >= was {
				t.Errorf("Compile of %s and %s: the change at %d is at %d", brief(z), briefly(table), was, one.At)
			}
		}
	}
	checkBack(t, z, table, y)
	return true
}

// checkBack asks whether what is compiled and stripped is as it was, but for the version, and where a change falls into a removed second: that is one later.
func checkBack(t *testing.T, z api.Zone, table api.Table, y api.Zone) {
	t.Helper()
	want := copied(z)
	if table.Has {
		want.Version = 4
	}
	removed := removedSeconds(z, table)
	for k, one := range want.Trans {
		if slices.Contains(removed, one.At) {
			want.Trans[k].At++
		}
	}
	if s := checkStrip(t, y, atsOf(want), api.OK); !equal(s, want) {
		t.Errorf("%s, compiled with %s, is stripped: %s; want %s", brief(z), briefly(table), brief(s), brief(want))
	}
}

// P21.6: over many zones and tables, the compiled zone tells what the plain one tells, is right, and is as it was when it is stripped.
func TestWhatFollows(t *testing.T) {
	compiled, failed := 0, 0
	for _, z := range plainZones() {
		for _, table := range plainTables() {
			if checkFollows(t, z, table) {
				compiled++
			} else {
				failed++
			}
		}
	}
	if compiled < 1000 || failed < 20 {
		t.Errorf("%d are compiled, %d are not", compiled, failed)
	}
}

// P21.6: each second of a whole day about a leap, in zones that change within it.
func TestEachSecondOfADay(t *testing.T) {
	for _, z := range []api.Zone{york(), changing(june-7200, june-1, june+1, june+14400, june+18001), ofFoot("AAA0BBB,J182/0,J365/24"), fixed(93599), between(3600, 7200, june-3600)} {
		for _, table := range []api.Table{utc(911), utc(-911), roll(911), roll(-911)} {
			y, e := Compile(z, table)
			if e != api.OK {
				t.Fatalf("Compile of %s and %s: %d", brief(z), briefly(table), e)
			}
			checkTells(t, z, y, june, 100000)
		}
	}
}

// P21.6: a change that falls into a removed second is the next one when it is stripped; nothing else is another one.
func TestStripOfARemovedSecond(t *testing.T) {
	for _, x := range []struct {
		z     api.Zone
		table api.Table
		back  []int
	}{
		{changing(june - 1), utc(-911), []int{june}},
		{changing(june-2, june-1, june+1), utc(-911), []int{june - 2, june, june + 1}},
		{changing(june-2, june, june+1), utc(-911), []int{june - 2, june, june + 1}},
		{changing(june-1, december-1), utc(-911, -1095), []int{june, december}},
		{changing(june-1, december-1), until(utc(911, -1095), december), []int{june - 1, december}},
		{changing(june-1, december-1), until(utc(911, 1095), december), []int{june - 1, december - 1}},
		{changing(june + 17999), roll(-911), []int{june + 18000}},
		{changing(june - 1), roll(-911), []int{june - 1}},
	} {
		y, e := Compile(x.z, x.table)
		if e != api.OK {
			t.Fatalf("Compile of %s and %s: %d", brief(x.z), briefly(x.table), e)
		}
		s := checkStrip(t, y, x.back, api.OK)
		want := changed(x.z, func(z *api.Zone) {
			for k := range z.Trans {
				z.Trans[k].At = x.back[k]
			}
			z.Version = y.Version
		})
		if !equal(s, want) {
			t.Errorf("%s is stripped: %s; want %s", brief(y), brief(s), brief(want))
		}
	}
}

// anyTable tells a right table of any leaps.
func anyTable(r *rand.Rand) api.Table {
	var t api.Table
	month := 12*1972 + r.Intn(24)
	// Where leaps stand near each other, records may be too near, too.
	apart := []int{1, 6, 12, 400}[r.Intn(4)]
	rolls, removed := r.Intn(3), r.Intn(3)
	for range r.Intn([]int{1, 2, 4, 30, 201}[r.Intn(5)]) {
		l := api.Leap{Day: end(month/12, 1+month%12), Step: 1}
		if r.Intn(3) < removed {
			l.Step = -1
		}
		l.Roll = r.Intn(3) < rolls
		if l.Day > lastEnd {
			break
		}
		t.Leaps = append(t.Leaps, l)
		month += 1 + r.Intn(apart)
	}
	if r.Intn(2) == 0 {
		first := 63072000
		if n := len(t.Leaps); n > 0 {
			first = midnight(t.Leaps[n-1].Day)
		}
		t = until(t, []int{first, first + r.Intn(100000), first + r.Intn(lastOf-first+1), lastOf}[r.Intn(4)])
	}
	return t
}

// anyZone tells a plain zone of any parts, with changes about the leaps of a table.
func anyZone(r *rand.Rand, t api.Table) api.Zone {
	z := api.Zone{Version: 1 + r.Intn(4)}
	for k := range 1 + r.Intn([]int{1, 3, 12}[r.Intn(3)]) {
		z.Types = append(z.Types, api.Type{Off: []int{-89999, 93599, 0, k, 3600 * (r.Intn(24) - 12), r.Intn(93600+89999) - 89999}[r.Intn(6)], Dst: r.Intn(2) == 0, Abbr: strconv.Itoa(100 + k)})
	}
	if z.Version > 2 && r.Intn(2) == 0 {
		z.Foot = feet()[r.Intn(len(feet()))]
	} else if z.Version == 2 && r.Intn(2) == 0 {
		z.Foot = feet()[r.Intn(15)]
	}
	var ats []int
	for range r.Intn([]int{1, 2, 9, 60}[r.Intn(4)]) {
		p := []int{r.Intn(1<<33) - 1<<32, -far, -5, least, most - r.Intn(300)}[min(r.Intn(40), 4)%5]
		if len(t.Leaps) > 0 && r.Intn(4) > 0 {
			l := t.Leaps[r.Intn(len(t.Leaps))]
			p = midnight(l.Day) + []int{0, -z.Types[r.Intn(len(z.Types))].Off}[r.Intn(2)] + r.Intn(7) - 3
		}
		if p > 1<<61 && r.Intn(3) > 0 {
			p = r.Intn(1 << 31)
		}
		ats = append(ats, p)
	}
	for _, p := range slices.Compact(slices.Sorted(slices.Values(ats))) {
		z.Trans = append(z.Trans, api.Trans{At: p, Type: r.Intn(len(z.Types))})
	}
	return z
}

// P21.1 to P21.4, P21.6: any zones, with any tables, against the slow ways.
func TestAnyZones(t *testing.T) {
	r := rand.New(rand.NewSource(21))
	errors := map[api.Errno]int{}
	for range 6000 {
		table := anyTable(r)
		z := anyZone(r, table)
		mustBeFit(t, z, table)
		want, error := slowRecords(z, table)
		checkRecords(t, z, table, want, error)
		for _, l := range table.Leaps[:min(5, len(table.Leaps))] {
			instant := slowInstant(z, l)
			checkInstant(t, z, l, instant)
			for _, p := range []int{instant - 1, instant, instant + 1} {
				n, ok := slowShift(z, table, p)
				checkShift(t, z, table, p, n, ok)
			}
		}
		for _, p := range []int{least + r.Intn(300), most - r.Intn(300), r.Intn(1<<33) - 1<<32} {
			n, ok := slowShift(z, table, p)
			checkShift(t, z, table, p, n, ok)
		}
		checkFollows(t, z, table)
		_, e := Compile(z, table)
		errors[e]++
	}
	if errors[api.OK] < 3000 || errors[api.ErrGap] < 50 || errors[api.ErrOver] < 50 || errors[api.ErrOrder] < 50 || len(errors) != 4 {
		t.Errorf("so many are told of each error: %v", errors)
	}
}

// P21.4: any zones with any records, which no table need have, against the slow way.
func TestAnyStrip(t *testing.T) {
	r := rand.New(rand.NewSource(214))
	errors := map[api.Errno]int{}
	for range 20000 {
		z := anyZone(r, api.Table{})
		at, sum := []int{0, r.Intn(1 << 31), most - r.Intn(1<<26)}[r.Intn(3)], 0
		var ats []int
		for range r.Intn([]int{2, 5, 60, 202}[r.Intn(4)]) {
			sum += 2*r.Intn(2) - 1
			z.Leaps = append(z.Leaps, api.Corr{At: at, Corr: sum})
			ats = append(ats, at-r.Intn(2), at, min(at, most-5)+r.Intn(5))
			if at > most-1<<26 {
				break
			}
			at += gap + r.Intn(2)*r.Intn(1<<25)
		}
		if n := len(z.Leaps); n > 0 && n < 201 && z.Version == 4 && r.Intn(2) == 0 {
			z.Leaps = append(z.Leaps, api.Corr{At: max(z.Leaps[n-1].At, at-r.Intn(gap)), Corr: sum})
		}
		for k := range ats {
			if r.Intn(len(ats)) < 4 {
				z.Trans = append(z.Trans, api.Trans{At: ats[k]})
			}
		}
		slices.SortFunc(z.Trans, func(a, b api.Trans) int {
			if a.At < b.At {
				return -1
			}
			return min(1, max(0, a.At-b.At))
		})
		z.Trans = slices.CompactFunc(z.Trans, func(a, b api.Trans) bool { return a.At == b.At })
		slow, error := slowStrip(z)
		y := checkStrip(t, z, atsOf(slow), error)
		errors[error]++
		if error == api.OK && y.Version != z.Version {
			t.Errorf("Strip of %s: %s", brief(z), brief(y))
		}
	}
	if errors[api.OK] < 5000 || errors[api.ErrOver] < 100 || errors[api.ErrOrder] < 500 || len(errors) != 3 {
		t.Errorf("so many are told of each error: %v", errors)
	}
}

// roomy tells l as a piece of a list, with others ahead of it and in its spare room, and the whole.
func roomy[E any](l []E, other E) ([]E, []E) {
	whole := slices.Concat([]E{other}, l, slices.Repeat([]E{other}, 70))
	return whole[1 : 1+len(l)], whole
}

// room is a zone and a table whose lists are pieces of greater ones.
type room struct {
	zone  api.Zone
	table api.Table
	types []api.Type
	trans []api.Trans
	corrs []api.Corr
	leaps []api.Leap
}

func roomOf(z api.Zone, t api.Table) room {
	r := room{zone: z, table: t}
	r.zone.Types, r.types = roomy(z.Types, api.Type{Off: 77, Dst: true, Abbr: "ZZZ"})
	r.zone.Trans, r.trans = roomy(z.Trans, api.Trans{At: 77, Type: 7})
	r.zone.Leaps, r.corrs = roomy(z.Leaps, api.Corr{At: 77, Corr: 7})
	r.table.Leaps, r.leaps = roomy(t.Leaps, api.Leap{Day: 77, Step: 7, Roll: true})
	return r
}

// isAs tells whether all of it is as another one.
func (r room) isAs(o room) bool {
	return slices.Equal(r.types, o.types) && slices.Equal(r.trans, o.trans) && slices.Equal(r.corrs, o.corrs) && slices.Equal(r.leaps, o.leaps) &&
		equal(r.zone, o.zone) && leap.Same(r.table, o.table)
}

// spoilList changes all of a list, its spare room too.
func spoilList[E any](l []E, other E) {
	for k := range l[:cap(l)] {
		l[:cap(l)][k] = other
	}
}

// spoil changes all of z's lists, their spare room too.
func spoil(z api.Zone) {
	spoilList(z.Types, api.Type{Off: 99, Abbr: "spoilt"})
	spoilList(z.Trans, api.Trans{At: 99, Type: 9})
	spoilList(z.Leaps, api.Corr{At: 99, Corr: 9})
}

// grown tells z with one more in each of its lists, in their spare room, if there is any.
func grown(z api.Zone) api.Zone {
	z.Types = append(z.Types, api.Type{Off: 98})
	z.Trans = append(z.Trans, api.Trans{At: 98})
	z.Leaps = append(z.Leaps, api.Corr{At: 98})
	return z
}

// pairs are zones and tables, right and not, that compile and that do not, and compiled zones.
func pairs() ([]api.Zone, []api.Table) {
	zones := slices.Concat(plainZones(), wrongZones()[:40], []api.Zone{changing(june-1, june), changing(june-1, june, most), between(-89999, 93599, january+5), {Types: []api.Type{}, Trans: []api.Trans{}, Leaps: []api.Corr{}}})
	for k, table := range plainTables() {
		if y, e := Compile(plainZones()[3+k%9], table); e == api.OK {
			zones = append(zones, y)
		}
	}
	return zones, slices.Concat(plainTables(), wrongTables()[:4], []api.Table{roll(1126, 1154), roll(-1126, 1154)})
}

// P21.5, W6: no call changes what it is handed, nor its spare room.
func TestNothingIsChanged(t *testing.T) {
	zones, tables := pairs()
	for _, z := range zones {
		for _, table := range tables {
			mine, had := roomOf(z, table), roomOf(z, table)
			for _, l := range table.Leaps[:min(3, len(table.Leaps))] {
				Instant(mine.zone, l)
			}
			Records(mine.zone, mine.table)
			for _, p := range []int{least, 0, june, most} {
				Shift(mine.zone, mine.table, p)
			}
			Compile(mine.zone, mine.table)
			Strip(mine.zone)
			if !mine.isAs(had) {
				t.Fatalf("%s or %s was changed", brief(z), briefly(table))
			}
		}
	}
}

// P21.5, W6: nothing that is written into an answer, or into what was handed in, or into the spare room of either, shows in the other, or in another answer.
func TestAnswersAreNewMemory(t *testing.T) {
	zones, tables := pairs()
	for _, z := range zones {
		for _, table := range tables {
			checkNew(t, z, table, func(r room) api.Zone {
				y, _ := Compile(r.zone, r.table)
				return y
			})
			checkNew(t, z, table, func(r room) api.Zone {
				leaps, _ := Records(r.zone, r.table)
				return api.Zone{Leaps: leaps}
			})
		}
		checkNew(t, z, api.Table{}, func(r room) api.Zone {
			y, _ := Strip(r.zone)
			return y
		})
	}
}

// checkNew asks whether what a call answers is new memory.
func checkNew(t *testing.T, z api.Zone, table api.Table, call func(r room) api.Zone) {
	t.Helper()
	mine, had := roomOf(z, table), roomOf(z, table)
	first, second := call(mine), call(mine)
	want := copied(second)
	if !equal(first, want) {
		t.Fatalf("of %s and %s there are two answers: %s and %s", brief(z), briefly(table), brief(first), brief(want))
	}
	// What is laid into the spare room of one shows in no other.
	grown(first)
	grown(second)
	spoil(first)
	if !mine.isAs(had) {
		t.Fatalf("an answer shares memory with %s or %s", brief(had.zone), briefly(table))
	}
	if !equal(second, want) {
		t.Fatalf("two answers of %s and %s share memory", brief(z), briefly(table))
	}
	third := call(mine)
	spoilList(mine.types, api.Type{Off: 99, Abbr: "spoilt"})
	spoilList(mine.trans, api.Trans{At: 99, Type: 9})
	spoilList(mine.corrs, api.Corr{At: 99, Corr: 9})
	spoilList(mine.leaps, api.Leap{Day: 99, Step: 9})
	if !equal(second, want) || !equal(third, want) {
		t.Fatalf("an answer of %s and %s changed with them", brief(z), briefly(table))
	}
}

// shares tells whether two texts that are not empty share memory.
func shares(a, b string) bool {
	first, second := uintptr(unsafe.Pointer(unsafe.StringData(a))), uintptr(unsafe.Pointer(unsafe.StringData(b)))
	return a != "" && b != "" && first < second+uintptr(len(b)) && second < first+uintptr(len(a))
}

// texts tells all names of a zone, and its foot.
func texts(z api.Zone) []string {
	l := []string{z.Foot}
	for _, one := range z.Types {
		l = append(l, one.Abbr)
	}
	return l
}

// P21.5, W6: the names and the feet that are answered share memory neither with those handed in, nor with each other, nor with another answer's.
func TestTextsAreNewMemory(t *testing.T) {
	check := func(z, y, other api.Zone) {
		t.Helper()
		for k, one := range texts(y) {
			for _, had := range append(texts(z), texts(other)...) {
				if shares(one, had) {
					t.Errorf("%q of %s shares memory", one, brief(y))
				}
			}
			for j, two := range texts(y) {
				if j != k && shares(one, two) {
					t.Errorf("%q and %q of %s share memory", one, two, brief(y))
				}
			}
		}
	}
	for _, z := range []api.Zone{york(), sized(9, 20), ofFoot("EST5EDT,M3.2.0,M11.1.0"), fixed(0)} {
		for _, table := range []api.Table{{}, utc(911), until(utc(published()...), lastOf)} {
			y, _ := Compile(z, table)
			again, _ := Compile(z, table)
			check(z, y, again)
			s, _ := Strip(y)
			other, _ := Strip(y)
			check(y, s, other)
			plain, _ := Strip(z)
			check(z, plain, s)
			if len(texts(y)) != len(texts(z)) || len(texts(s)) != len(texts(z)) {
				t.Errorf("%s has other texts than %s", brief(y), brief(z))
			}
		}
	}
	if one := "EST5"; !shares(one[:3], one) {
		t.Error("what shares memory is not seen")
	}
}

// W5: nil lists and empty ones are the same, handed in.
func TestNilAndEmpty(t *testing.T) {
	for _, z := range []api.Zone{fixed(3600), ofFoot("EST5EDT,M3.2.0,M11.1.0")} {
		empty := changed(z, func(z *api.Zone) { z.Trans, z.Leaps = []api.Trans{}, make([]api.Corr, 0, 5) })
		for _, table := range plainTables() {
			y, e := Compile(z, table)
			if x, other := Compile(empty, table); !equal(x, y) || other != e {
				t.Errorf("Compile of %s and %s: %s %d, or %s %d", brief(z), briefly(table), brief(x), other, brief(y), e)
			}
		}
		for _, table := range []api.Table{{}, until(api.Table{}, june)} {
			none := table
			none.Leaps = make([]api.Leap, 0, 3)
			y, e := Compile(z, table)
			if x, other := Compile(z, none); !equal(x, y) || other != e || e != api.OK {
				t.Errorf("Compile of %s and %s: %s %d, or %s %d", brief(z), briefly(table), brief(x), other, brief(y), e)
			}
		}
		y, e := Strip(z)
		if x, other := Strip(empty); !equal(x, y) || other != e || e != api.OK {
			t.Errorf("Strip of %s: %s %d, or %s %d", brief(z), brief(x), other, brief(y), e)
		}
	}
}

// answers tells what all calls answer, of many arguments, as a text.
func answers() string {
	var all strings.Builder
	zones, tables := pairs()
	for k, z := range zones {
		for j, table := range tables {
			if (k+j)%5 > 0 {
				continue
			}
			for _, l := range table.Leaps[:min(2, len(table.Leaps))] {
				fmt.Fprintln(&all, Instant(z, l))
			}
			leaps, e := Records(z, table)
			fmt.Fprintln(&all, leaps, e)
			for _, p := range []int{least, 0, june, most} {
				n, ok := Shift(z, table, p)
				fmt.Fprintln(&all, n, ok)
			}
			y, e := Compile(z, table)
			fmt.Fprintln(&all, y, e)
		}
		y, e := Strip(z)
		fmt.Fprintln(&all, y, e)
	}
	return all.String()
}

// W2: no call hangs on an earlier one, whatever came between: nothing of package level is changed.
func TestNothingIsKept(t *testing.T) {
	had := answers()
	zones, tables := pairs()
	for k, z := range zones {
		table := tables[k%len(tables)]
		y, _ := Compile(z, table)
		s, _ := Strip(y)
		leaps, _ := Records(z, table)
		spoil(y)
		spoil(s)
		spoilList(leaps, api.Corr{At: 99, Corr: 9})
	}
	if again := answers(); again != had {
		t.Error("the answers are others than they were")
	}
}

// W2: calls at the same time, of the same things, do not touch each other.
func TestCallsAtTheSameTime(t *testing.T) {
	want := answers()
	var all sync.WaitGroup
	for range 8 {
		all.Go(func() {
			if got := answers(); got != want {
				t.Error("other answers at the same time as others")
			}
		})
	}
	all.Wait()
}

// W1: of zones that are not plain, and of tables that are not right, nothing is promised of Instant, Records and Shift, but none of them panics.
func TestOfWrongOnesNothingPanics(t *testing.T) {
	zones := slices.Concat(wrongZones(), plainZones()[:12], []api.Zone{with(york(), rising(201))})
	for _, z := range zones {
		for _, table := range append(wrongTables(), plainTables()...) {
			for _, l := range table.Leaps[:min(3, len(table.Leaps))] {
				Instant(z, l)
			}
			Records(z, table)
			for _, p := range []int{least, -1, 0, june, most} {
				Shift(z, table, p)
			}
		}
		for _, d := range []int{least, least + 1, -1, 0, most - 1, most, most / 86400, least / 86400} {
			for _, step := range []int{least, -1, 0, 1, most} {
				l := api.Leap{Day: d, Step: step, Roll: true}
				Instant(z, l)
				Shift(z, api.Table{Leaps: []api.Leap{l, l}}, most)
				Records(z, until(api.Table{Leaps: []api.Leap{l, l}}, most))
			}
		}
	}
}

// W1, P21.1 to P21.6: whatever zone and table.
func FuzzRight(f *testing.F) {
	for k, s := range feet() {
		f.Add(s, 1+k%4, 900*k-36000, 3600*k-30000, june-k, k, june+14400+k, 911, 1-2*(k%2), k%3 == 0, 1095+31*(k%3), 1, k%4 == 0, k%2 == 0, december+k)
	}
	f.Add("", 1, -89999, 93599, january+5, 100, most-5, 1126, -1, true, 1154, 1, true, true, february)
	f.Add("", 2, 0, 0, june-1, 1, most, 911, -1, false, 1095, 1, false, false, 0)
	f.Fuzz(func(t *testing.T, s string, version, off, to, first, step, last, day, one int, rolls bool, next, two int, local, has bool, expires int) {
		z := api.Zone{Types: []api.Type{kind(off, "AAA"), summer(to, "BBB")}, Trans: at(first, first+step, last), Foot: s, Version: version}
		table := api.Table{Leaps: []api.Leap{{Day: day, Step: one, Roll: rolls}, {Day: next, Step: two, Roll: local}}, Has: has, Expires: expires}
		for _, z := range []api.Zone{z, changed(z, func(z *api.Zone) { z.Trans = z.Trans[:1] }), changed(z, func(z *api.Zone) { z.Trans = z.Trans[2:] }), changed(z, func(z *api.Zone) { z.Trans = nil })} {
			for _, table := range []api.Table{table, {Leaps: table.Leaps[:1], Has: has, Expires: expires}, {Has: has, Expires: expires}} {
				if !zone.Right(z) || !leap.Right(table) {
					checkArg(t, z, table)
					Records(z, table)
					Shift(z, table, first)
					continue
				}
				want, e := slowRecords(z, table)
				checkRecords(t, z, table, want, e)
				n, ok := slowShift(z, table, first)
				checkShift(t, z, table, first, n, ok)
				checkFollows(t, z, table)
			}
			y := with(z, records(first, one, max(first, last), two))
			slow, e := slowStrip(y)
			if !zone.Right(y) {
				slow, e = api.Zone{}, api.ErrArg
			}
			if got, error := Strip(y); error != e || !equal(got, slow) {
				t.Errorf("Strip of %s: %s %d; want %s %d", brief(y), brief(got), error, brief(slow), e)
			}
		}
	})
}
