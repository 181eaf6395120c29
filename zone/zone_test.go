package zone

import (
	"fmt"
	"math/rand"
	"regexp"
	"slices"
	"strconv"
	"strings"
	"sync"
	"testing"
	"time"
	"unsafe"

	"epact/api"
	"epact/foot"
)

const (
	most  = api.MaxInt
	least = api.MinInt
	far   = 1 << 60
	gap   = 2419199
)

// second tells the POSIX second of a date and a clock.
func second(y, m, d, hour, min, sec int) int {
	return int(time.Date(y, time.Month(m), d, hour, min, sec, 0, time.UTC).Unix())
}

// kind tells a kind of local time.
func kind(off int, abbr string) api.Type { return api.Type{Off: off, Abbr: abbr} }

// summer tells a kind of local time of the summer.
func summer(off int, abbr string) api.Type { return api.Type{Off: off, Dst: true, Abbr: abbr} }

// changes tells changes: an At and a Type by turns.
func changes(n ...int) []api.Trans {
	var l []api.Trans
	for k := 0; k < len(n); k += 2 {
		l = append(l, api.Trans{At: n[k], Type: n[k+1]})
	}
	return l
}

// records tells records of leap seconds: an At and a Corr by turns.
func records(n ...int) []api.Corr {
	var l []api.Corr
	for k := 0; k < len(n); k += 2 {
		l = append(l, api.Corr{At: n[k], Corr: n[k+1]})
	}
	return l
}

// utc is a zone of one kind, as in the chapter's example.
func utc() api.Zone {
	return api.Zone{Types: []api.Type{kind(0, "UTC")}, Version: 2}
}

// york is a zone with each part but leap seconds.
func york() api.Zone {
	return api.Zone{
		Types: []api.Type{kind(-17762, "LMT"), summer(-14400, "EDT"), kind(-18000, "EST")},
		Trans: changes(-2717650800, 2, 100, 1, 200, 2),
		Foot:  "EST5EDT,M3.2.0,M11.1.0", Version: 2,
	}
}

// inserted and removed are records of leap seconds of both kinds: of both the first two add one each; the next three of removed take one away each.
func inserted() []api.Corr { return records(78796800, 1, 94694401, 2) }
func removed() []api.Corr {
	return records(78796800, 1, 94694401, 2, 126230401, 1, 157766400, 0, 189302399, -1)
}

// published are the records of 1972 to 2016.
func published() []api.Corr {
	var l []api.Corr
	for k, d := range []int{911, 1095, 1460, 1825, 2190, 2556, 2921, 3286, 3651, 4198, 4563, 4928, 5659, 6573, 7304, 7669, 8216, 8581, 8946, 9495, 10042, 10591, 13148, 14244, 15521, 16616, 17166} {
		l = append(l, api.Corr{At: (d+1)*86400 + k, Corr: k + 1})
	}
	return l
}

// full is a zone with each part, of the last version, that expires.
func full() api.Zone {
	z := york()
	z.Leaps, z.Version = append(published(), api.Corr{At: 1782604827, Corr: 27}), 4
	return z
}

// copied tells z in new memory.
func copied(z api.Zone) api.Zone {
	z.Types, z.Trans, z.Leaps = slices.Clone(z.Types), slices.Clone(z.Trans), slices.Clone(z.Leaps)
	return z
}

// changed tells a copy of z that is changed.
func changed(z api.Zone, change func(z *api.Zone)) api.Zone {
	y := copied(z)
	change(&y)
	return y
}

// equal is another way to tell whether two zones are the same: as texts.
func equal(a, b api.Zone) bool {
	return textOf(a) == textOf(b)
}

// textOf tells all that a zone says, as a text.
func textOf(z api.Zone) string {
	return fmt.Sprintf("%#v", [][]any{{z.Version, z.Foot, len(z.Types), len(z.Trans), len(z.Leaps)}, list(z.Types), list(z.Trans), list(z.Leaps)})
}

func list[E any](l []E) []any {
	all := []any{}
	for _, one := range l {
		all = append(all, one)
	}
	return all
}

// brief tells the most that is to be seen of a zone in a line.
func brief(z api.Zone) string {
	return fmt.Sprintf("version %d, foot %.60q, types %d %.150s, changes %d %.150s, leaps %d %.150s", z.Version, z.Foot, len(z.Types), fmt.Sprintf("%+v", z.Types), len(z.Trans), fmt.Sprint(z.Trans), len(z.Leaps), fmt.Sprint(z.Leaps))
}

var (
	anyName = regexp.MustCompile(`\A[A-Za-z0-9+-]{3,16}\z`)
	ruleSec = regexp.MustCompile(`/([+-]?)([0-9]+)(?::([0-9]+))?(?::([0-9]+))?`)
)

// slowKinds is another way to tell whether kinds may be those of a zone.
func slowKinds(l []api.Type) bool {
	pool := map[string]int{}
	for _, one := range l {
		pool[one.Abbr] = len(one.Abbr) + 1
		if !anyName.MatchString(one.Abbr) || one.Off <= -90000 || 93600 <= one.Off {
			return false
		}
	}
	n := 0
	for _, size := range pool {
		n += size
	}
	return 0 < len(l) && len(l) < 65 && n < 257
}

// slowChanges is another way to tell whether changes may be those of a zone: sorted, each At once, they are as they were.
func slowChanges(l []api.Trans, kinds int) bool {
	var ats []int
	for _, one := range l {
		ats = append(ats, one.At)
		if !slices.Contains(places(kinds), one.Type) {
			return false
		}
	}
	sorted := slices.Compact(slices.Sorted(slices.Values(ats)))
	return slices.Equal(ats, sorted) && len(l) < 2001
}

// places tells the numbers from 0 on, so many of them, and at most 70.
func places(n int) []int {
	var l []int
	for k := range min(n, 70) {
		l = append(l, k)
	}
	return l
}

// slowLeaps is another way to tell whether records are right, and whether they expire.
func slowLeaps(l []api.Corr) (bool, bool) {
	if len(l) > 201 {
		return false, false
	}
	ahead, expires := api.Corr{At: -gap}, false
	for k, one := range l {
		step := one.Corr - ahead.Corr
		expires = step == 0
		if one.At < 0 || step != 1 && step != -1 && (step != 0 || k < len(l)-1) {
			return false, false
		}
		if k > 0 && (one.At < ahead.At || !expires && one.At-ahead.At < gap) {
			return false, false
		}
		ahead = one
	}
	return true, expires
}

// slowFoot is another way to tell whether a text may be the foot of a zone of that version: the seconds of its rules are read from the text.
func slowFoot(s string, version int) bool {
	if s == "" {
		return true
	}
	_, ok := foot.Parse(s)
	for _, m := range ruleSec.FindAllStringSubmatch(s, -1) {
		n := 0
		for _, part := range m[2:] {
			x, _ := strconv.Atoi(part)
			n = n*60 + x
		}
		if version == 2 && (n > 86400 || n > 0 && m[1] == "-") {
			return false
		}
	}
	return ok && version != 1
}

// slowRight is another way to tell whether a zone is right.
func slowRight(z api.Zone) bool {
	right, expires := slowLeaps(z.Leaps)
	return slices.Contains([]int{1, 2, 3, 4}, z.Version) && slowKinds(z.Types) && slowChanges(z.Trans, len(z.Types)) && right && (z.Version == 4 || !expires) && slowFoot(z.Foot, z.Version)
}

// slowIndex is another way to the last change, from the back.
func slowIndex(z api.Zone, at int) int {
	k := len(z.Trans) - 1
	for k >= 0 && z.Trans[k].At > at {
		k--
	}
	return k
}

// slowPosix is another way to the POSIX second: each leap second on the way is taken away by itself.
func slowPosix(z api.Zone, at int) int {
	p, sum := at, 0
	for _, one := range z.Leaps {
		if one.At <= at {
			p -= one.Corr - sum
		}
		sum = one.Corr
	}
	return p
}

// slowOfFoot is another way to the local time of a foot, by the library's calendar.
func slowOfFoot(f api.Foot, p int) api.Type {
	local := p + f.Std.Off
	if !f.Has || local < -62135596800 || local > 253402300799 {
		return f.Std
	}
	from, to, _ := foot.Span(f, time.Unix(int64(local), 0).UTC().Year())
	if from < to && (p < from || p >= to) || from >= to && p < from && p >= to {
		return f.Std
	}
	return f.Dst
}

// slowLookup is another way to the local time of a right zone.
func slowLookup(z api.Zone, at int) api.Type {
	k := slowIndex(z, at)
	f, ok := foot.Parse(z.Foot)
	switch {
	case ok && k+1 == len(z.Trans):
		return slowOfFoot(f, slowPosix(z, at))
	case k < 0:
		return z.Types[0]
	}
	return z.Types[z.Trans[k].Type]
}

func checkRight(t *testing.T, z api.Zone, want bool) {
	t.Helper()
	had := copied(z)
	if got := Right(z); got != want {
		t.Errorf("Right of %s: %t; want %t", brief(z), got, want)
	}
	if slow := slowRight(z); slow != want {
		t.Errorf("the slow way to Right of %s: %t; want %t", brief(z), slow, want)
	}
	if !equal(z, had) {
		t.Errorf("Right of %s changed it to %s", brief(had), brief(z))
	}
}

// checkChanged asks whether a zone is right that is changed.
func checkChanged(t *testing.T, z api.Zone, want bool, change func(z *api.Zone)) {
	t.Helper()
	checkRight(t, changed(z, change), want)
}

// checkAt asks of a right zone all that there is of a second.
func checkAt(t *testing.T, z api.Zone, at, index, posix int, want api.Type) {
	t.Helper()
	if k := Index(z, at); k != index {
		t.Errorf("Index of %s, %d: %d; want %d", brief(z), at, k, index)
	}
	if p := Posix(z, at); p != posix {
		t.Errorf("Posix of %s, %d: %d; want %d", brief(z), at, p, posix)
	}
	if got := Lookup(z, at); got != want {
		t.Errorf("Lookup of %s, %d: %+v; want %+v", brief(z), at, got, want)
	}
}

// checkSlow asks the same against the slow ways.
func checkSlow(t *testing.T, z api.Zone, at int) {
	t.Helper()
	checkAt(t, z, at, slowIndex(z, at), slowPosix(z, at), slowLookup(z, at))
}

func checkSame(t *testing.T, a, b api.Zone, want bool) {
	t.Helper()
	if got := Same(a, b); got != want {
		t.Errorf("Same of %s and %s: %t", brief(a), brief(b), got)
	}
	if got := Same(b, a); got != want {
		t.Errorf("Same of %s and %s: %t", brief(b), brief(a), got)
	}
}

// names tells n names, all different, of three bytes.
func names(n int) []string {
	var l []string
	for k := range n {
		l = append(l, strconv.Itoa(100+k))
	}
	return l
}

// sized tells a zone with so many kinds, all of the same name, and so many changes, to each of them by turns.
func sized(kinds, trans int) api.Zone {
	z := api.Zone{Types: make([]api.Type, kinds), Trans: make([]api.Trans, trans), Version: 2}
	for k := range z.Types {
		z.Types[k] = api.Type{Off: 900*k - 28800, Dst: k%3 == 1, Abbr: "EST"}
	}
	for k := range z.Trans {
		z.Trans[k] = api.Trans{At: 1000*k - 1000000, Type: (k + 1) % max(1, kinds)}
	}
	return z
}

// rising tells so many records, each of which is one more than that ahead, as near as they may be.
func rising(n int) []api.Corr {
	var l []api.Corr
	for k := range n {
		l = append(l, api.Corr{At: k * gap, Corr: k + 1})
	}
	return l
}

// feet are texts of feet that each version but the first may have.
func feet() []string {
	return []string{
		"UTC0", "EST5", "<+0530>-5:30", "<-03>3", "LMT-24:59:59", "LMT24:59:59", "EST5EDT,M3.2.0,M11.1.0", "CET-1CEST,M3.5.0,M10.5.0/3", "AEST-10AEDT,M10.1.0,M4.1.0/3", "IST-1GMT0,M10.5.0,M3.5.0/1",
		"EST5EDT4,J60,J300/0", "EST5EDT,0/0,J365/24", "<-04>4<-03>,M9.1.6/24,M4.1.6/24", "AAA0BBB0,J100,J100", "AAA0BBB-12,J1/0,365/24:00:00", "EST+5EDT+4,59/1:02:03,60",
	}
}

// farFeet are texts of feet that only the third version and the fourth may have.
func farFeet() []string {
	return []string{
		"EST5EDT,0/0,J365/25", "EET-2EEST,M3.4.4/50,M10.4.4/50", "<-02>2<-01>,M3.5.0/-1,M10.5.0/0", "<-02>2<-01>,M3.5.0/0,M10.5.0/-1", "AAA0BBB,J1/-167:59:59,J365/167:59:59", "AAA0BBB,J1/24:00:01,J365", "AAA0BBB,J1,J365/24:00:01", "AAA0BBB,J1/-0:00:01,J365", "AAA0BBB,J1,J365/-0:00:01", "AAA0BBB,0/-167,365/-167",
	}
}

// noFeet are texts that are none.
func noFeet() []string {
	return []string{
		"EST", "5", "ES5", "E5", "EST5E", "EST5ED", "EST5EDT", "EST5EDT,", "EST5EDT,M3.2.0", "EST5EDT,M3.2.0,", "EST5EDT,M3.2.0,M11.1", "EST5EDT,M3.2.0,M11.1.", "EST5EDT,M3.2.0,M11.1.0/", "ST5EDT,M3.2.0,M11.1.0x", "EST5EDT,M3.2.0,M11.1.0,", "EST5EDT,M3.2.0,M11.1.0,M1.1.0",
		" ", "\n", "\x00", " UTC0", "UTC0 ", "UTC 0", "UTC0\n", "UTC0\x00", "EST5EDT, M3.2.0,M11.1.0", "EST5EDT,M3.2.0, M11.1.0", "EST5EDT,M3.2.0,M11.1.0 ", " EST5EDT,M3.2.0,M11.1.0", "\tUTC0", "UTC0UTC0", "UTC0,J1,J2", "UTC0:", "UTC0/", "UTC25", "UTC-25:00:00", "<+03>", "<+03-3", "+03>-3", "<>0", "<+03>-3<+04", "EST5EDT,M3.2.0/168,M11.1.0", "EST5EDT,M13.2.0,M11.1.0", "EST5EDT,J0,J1", "EST5EDT,0,366", strings.Repeat("A", 17) + "0", "\xff\xff\xff0", "\u0395\u03a3\u03a40", ":EST5EDT", "America/New_York",
	}
}

// someZones are right zones, of each version, with and without each part.
func someZones() []api.Zone {
	l := []api.Zone{utc(), york(), full(), sized(1, 0), sized(1, 1), sized(2, 1), sized(3, 2), sized(64, 2000), sized(1, 2000), sized(64, 0), sized(5, 40)}
	for k, s := range append(feet(), farFeet()...) {
		z := api.Zone{Types: []api.Type{kind(k*60, "LMT"), kind(3600, "+01"), summer(7200, "+02")}, Foot: s, Version: 3 + k%2}
		l = append(l, z)
		z.Trans = changes(second(1900+4*k, 6, 1, 0, 0, 0), 1+k%2)
		l = append(l, z)
		z.Leaps = published()
		l = append(l, z)
		z.Trans = changes(-far, 1, -5, 2, second(1970+k, 1, 1, 0, 0, 0), 1, second(1990+2*k, 7, 1, 0, 0, 0), 2)
		z.Leaps, z.Version = append(removed(), api.Corr{At: 1700000000, Corr: -1}), 4
		l = append(l, z)
	}
	for _, leaps := range [][]api.Corr{inserted(), removed(), published(), rising(1), rising(200), rising(201), records(0, -1), records(most, 1)} {
		l = append(l, changed(utc(), func(z *api.Zone) { z.Leaps, z.Version = leaps, 1 }), changed(york(), func(z *api.Zone) { z.Leaps = leaps }), changed(york(), func(z *api.Zone) { z.Leaps, z.Foot = leaps, "" }))
	}
	for _, leaps := range [][]api.Corr{records(0, 0), records(5, 0), records(most, 0), append(inserted(), api.Corr{At: 94694401, Corr: 2}), append(removed(), api.Corr{At: 189302400, Corr: -1}), append(rising(200), api.Corr{At: 199 * gap, Corr: 200})} {
		l = append(l, changed(full(), func(z *api.Zone) { z.Leaps = leaps }), changed(full(), func(z *api.Zone) { z.Leaps, z.Foot, z.Trans = leaps, "", nil }))
	}
	return l
}

// wrongZones are zones that are not right, each of them in one thing.
func wrongZones() []api.Zone {
	l := []api.Zone{{}, {Version: 2}, {Foot: "UTC0"}, {Foot: "UTC0", Version: 2}, {Trans: changes(0, 0), Leaps: inserted(), Version: 2}}
	for _, base := range []api.Zone{york(), full(), sized(64, 2000)} {
		for _, change := range []func(z *api.Zone){
			func(z *api.Zone) { z.Types = nil },
			func(z *api.Zone) { z.Types = sized(65, 0).Types },
			func(z *api.Zone) { z.Types[0].Off = 93600 },
			func(z *api.Zone) { z.Types[2].Off = least },
			func(z *api.Zone) { z.Types[1].Abbr = "" },
			func(z *api.Zone) { z.Types[1].Abbr = "E\x00T" },
			func(z *api.Zone) { z.Trans = sized(1, 2001).Trans },
			func(z *api.Zone) { z.Trans[0].Type = -1 },
			func(z *api.Zone) { z.Trans[2].Type = least },
			func(z *api.Zone) { z.Trans[len(z.Trans)-1].Type = len(z.Types) },
			func(z *api.Zone) { z.Trans[1].Type = most },
			func(z *api.Zone) { z.Trans[1].At = z.Trans[0].At },
			func(z *api.Zone) { z.Trans[1].At = most },
			func(z *api.Zone) { z.Trans[0].At = most },
			func(z *api.Zone) { z.Trans[2].At = least },
			func(z *api.Zone) { z.Leaps = records(5, 2) },
			func(z *api.Zone) { z.Leaps = records(most, least, least, most) },
			func(z *api.Zone) { z.Leaps, z.Version = records(5, 0), 3 },
			func(z *api.Zone) { z.Foot = "EST" },
			func(z *api.Zone) { z.Foot, z.Version = "UTC0", 1 },
			func(z *api.Zone) { z.Version = 0 },
			func(z *api.Zone) { z.Version = 5 },
		} {
			l = append(l, changed(base, change))
		}
	}
	return l
}

// P19.1, P19.2, P19.3: the chapter's example.
func TestExample(t *testing.T) {
	checkRight(t, utc(), true)
	for _, at := range []int{-far, -1, 0, 1, 1 << 40, far} {
		checkAt(t, utc(), at, -1, at, kind(0, "UTC"))
	}
}

// P19.1: all those that are right, and those that are not.
func TestRightOfSome(t *testing.T) {
	for _, z := range someZones() {
		checkRight(t, z, true)
	}
	for _, z := range wrongZones() {
		checkRight(t, z, false)
	}
}

// P19.1: each version, of zones with and without a foot, and with and without what only some versions have.
func TestRightOfVersions(t *testing.T) {
	plain := york()
	plain.Foot = ""
	versions := []int{least, least + 1, -1 << 32, -2, -1, 0, 1, 2, 3, 4, 5, 6, 48, 49, 50, 51, 52, 1<<8 + 2, 1<<32 + 2, most - 1, most}
	for _, x := range []struct {
		z     api.Zone
		right []int
	}{
		{utc(), []int{1, 2, 3, 4}},
		{plain, []int{1, 2, 3, 4}},
		{changed(plain, func(z *api.Zone) { z.Leaps = published() }), []int{1, 2, 3, 4}},
		{changed(plain, func(z *api.Zone) { z.Leaps = records(5, 0) }), []int{4}},
		{changed(plain, func(z *api.Zone) { z.Leaps = full().Leaps }), []int{4}},
		{sized(64, 2000), []int{1, 2, 3, 4}},
		{york(), []int{2, 3, 4}},
		{changed(york(), func(z *api.Zone) { z.Foot = "EST5EDT,M3.2.0/-1,M11.1.0" }), []int{3, 4}},
		{full(), []int{4}},
		{sized(65, 0), nil},
	} {
		for _, v := range versions {
			checkChanged(t, x.z, slices.Contains(x.right, v), func(z *api.Zone) { z.Version = v })
		}
	}
}

// P19.1: so many kinds, with and without the other parts.
func TestRightOfHowManyKinds(t *testing.T) {
	for n := range 200 {
		right := 1 <= n && n <= 64
		z := sized(n, 0)
		checkRight(t, z, right)
		checkChanged(t, z, right, func(z *api.Zone) { z.Foot, z.Leaps = "UTC0", inserted() })
		checkChanged(t, z, right, func(z *api.Zone) { z.Trans = changes(5, 0) })
		checkChanged(t, z, right, func(z *api.Zone) { z.Trans = changes(5, n-1) })
		checkChanged(t, z, false, func(z *api.Zone) { z.Trans = changes(5, n) })
	}
	for _, n := range []int{256, 257, 320, 1<<16 + 1} {
		checkRight(t, sized(n, 0), false)
	}
}

// P19.1: how far each kind is from UTC, the first one, those in the middle, and the last one.
func TestRightOfOffs(t *testing.T) {
	offs := map[int]bool{}
	for _, n := range []int{0, 1, -1, 3600, -3600, 86399, 86400, 86401, -86399, -86400, -86401, 89999, 90000, -89998, -89999, 93598, 93599} {
		offs[n] = true
	}
	for _, n := range []int{-90000, -90001, -93599, -93600, 93600, 93601, 100000, -100000, 1 << 31, -1 << 31, 1 << 32, -1 << 32, 1<<32 + 3600, most, most - 1, -most, least, least + 1} {
		offs[n] = false
	}
	for n, right := range offs {
		checkChanged(t, utc(), right, func(z *api.Zone) { z.Types[0].Off = n })
		for _, base := range []api.Zone{york(), full(), sized(64, 3)} {
			for k := range base.Types {
				checkChanged(t, base, right, func(z *api.Zone) { z.Types[k].Off = n })
				checkChanged(t, base, right, func(z *api.Zone) { z.Types[k].Off, z.Types[k].Dst = n, !z.Types[k].Dst })
			}
			checkChanged(t, base, right, func(z *api.Zone) {
				for k := range z.Types {
					z.Types[k].Off = n
				}
			})
		}
	}
	for _, n := range []int{-90002, -90001, -90000, -89999, -89998, 93597, 93598, 93599, 93600, 93601} {
		checkChanged(t, york(), -89999 <= n && n <= 93599, func(z *api.Zone) { z.Types[1].Off = n })
	}
}

// P19.1: names that are right and that are not, of the first kind, of those in the middle, and of the last one.
func TestRightOfNames(t *testing.T) {
	for _, s := range []string{
		"EST", "est", "+05", "-05", "000", "+++", "E4T", "abcdefghijklmnop", "ABCDEFGHIJKLMNOP", "0123456789+-+-Zz",
		"", "E", "ES", "+5", "abcdefghijklmnopq", strings.Repeat("E", 256+3), "E T", " EST", "EST ", "<EST>", "E\x00T", "EST\x00", "\x00\x00\x00", "E\x7fT", "E\x80T", "\xff\xff\xff", "E,T", "E.T", "E:T", "E@T", "E[T", "E`T", "E{T", "E/T", "\u00c9ST", "\u0663\u0664\u0665", "EST\n",
	} {
		right := anyName.MatchString(s)
		checkChanged(t, utc(), right, func(z *api.Zone) { z.Types[0].Abbr = s })
		for _, base := range []api.Zone{york(), full(), sized(64, 3)} {
			for k := range base.Types {
				checkChanged(t, base, right, func(z *api.Zone) { z.Types[k].Abbr = s })
			}
		}
	}
}

// P19.1: names that have just room together, and such that have none: each is laid once, with a byte behind it.
func TestRightOfManyNames(t *testing.T) {
	given := func(l []string, last string) api.Zone {
		z := sized(len(l), 3)
		for k, s := range l {
			z.Types[k].Abbr = s
		}
		z.Types[len(l)-1].Abbr = last
		return z
	}
	// Of 64 names of three bytes there are 256 bytes.
	checkRight(t, given(names(64), "EST"), true)
	checkRight(t, given(names(64), "ESTX"), false)
	checkRight(t, given(names(64), "100"), true)
	for n := range 65 {
		for long := 3; long <= 16; long++ {
			if n < 1 {
				continue
			}
			var l []string
			for _, s := range names(n) {
				l = append(l, s+strings.Repeat("x", long-3))
			}
			checkRight(t, given(l, l[n-1]), n*(long+1) <= 256)
			checkRight(t, given(l, l[0]), max(1, n-1)*(long+1) <= 256)
		}
	}
}

// P19.1: so many changes.
func TestRightOfHowManyChanges(t *testing.T) {
	for _, kinds := range []int{1, 2, 64} {
		for n, right := range map[int]bool{0: true, 1: true, 2: true, 3: true, 255: true, 256: true, 257: true, 1999: true, 2000: true, 2001: false, 2002: false, 4000: false, 1 << 16: false} {
			checkRight(t, sized(kinds, n), right)
			checkChanged(t, sized(kinds, n), right, func(z *api.Zone) { z.Foot, z.Leaps = "UTC0", inserted() })
		}
	}
}

// P19.1: changes that rise, that stay, and that fall, at the ends and in the middle, and at the least and the greatest numbers.
func TestRightOfRisingChanges(t *testing.T) {
	for _, n := range []int{2, 3, 7, 2000} {
		base := sized(2, n)
		for _, k := range []int{1, n / 2, n - 2, n - 1} {
			if k < 1 {
				continue
			}
			ahead := base.Trans[k-1].At
			for at, right := range map[int]bool{ahead: false, ahead - 1: false, ahead + 1: true, ahead - 1000: false, ahead - 100000: false, ahead + 999: true, least: false, least + 1: false} {
				checkChanged(t, base, right, func(z *api.Zone) { z.Trans[k].At = at })
			}
			behind := base.Trans[k].At
			for at, right := range map[int]bool{behind: false, behind + 1: false, behind - 1: true, behind + 100000: false, most: false, most - 1: false} {
				checkChanged(t, base, right, func(z *api.Zone) { z.Trans[k-1].At = at })
			}
		}
		checkChanged(t, base, true, func(z *api.Zone) { z.Trans[0].At, z.Trans[n-1].At = least, most })
		checkChanged(t, base, false, func(z *api.Zone) { z.Trans[0].At, z.Trans[n-1].At = most, least })
		checkChanged(t, base, true, func(z *api.Zone) { z.Trans[0].At = least })
		checkChanged(t, base, true, func(z *api.Zone) { z.Trans[n-1].At = most })
	}
	for _, x := range []struct {
		at    []int
		right bool
	}{
		{[]int{least}, true}, {[]int{most}, true}, {[]int{least, most}, true}, {[]int{most, least}, false}, {[]int{least, least}, false}, {[]int{most, most}, false}, {[]int{least, least + 1}, true}, {[]int{most - 1, most}, true}, {[]int{most, most - 1}, false}, {[]int{least + 1, least}, false},
		{[]int{-1, most}, true}, {[]int{most, -1}, false}, {[]int{least, 0}, true}, {[]int{least, 1}, true}, {[]int{1, least}, false}, {[]int{0, least}, false}, {[]int{least, 0, most}, true}, {[]int{0, most, least}, false}, {[]int{least, most, 0}, false}, {[]int{0, 0}, false}, {[]int{-1, 0, 0}, false}, {[]int{0, 0, 1}, false},
	} {
		checkChanged(t, utc(), x.right, func(z *api.Zone) {
			z.Trans = nil
			for _, at := range x.at {
				z.Trans = append(z.Trans, api.Trans{At: at})
			}
		})
	}
}

// P19.1: the kind of each change, the first one, those in the middle, and the last one.
func TestRightOfKindsOfChanges(t *testing.T) {
	for _, kinds := range []int{1, 2, 3, 63, 64} {
		for _, n := range []int{1, 2, 3, 9, 2000} {
			for _, k := range []int{0, n / 2, n - 1} {
				for _, x := range []int{least, least + 1, -1 << 32, -256, -64, -2, -1, 0, kinds / 2, kinds - 1, kinds, kinds + 1, 64, 65, 255, 256, 1 << 32, most - 1, most} {
					checkChanged(t, sized(kinds, n), 0 <= x && x < kinds, func(z *api.Zone) { z.Trans[k].Type = x })
				}
			}
		}
	}
}

// P19.1: records that are right, and that are not in each way, in each version; and where they expire, alone and behind leaps.
func TestRightOfLeaps(t *testing.T) {
	for _, x := range []struct {
		leaps          []api.Corr
		right, expires bool
	}{
		{nil, true, false}, {[]api.Corr{}, true, false}, {inserted(), true, false}, {removed(), true, false}, {published(), true, false}, {rising(1), true, false}, {rising(200), true, false}, {rising(201), true, false}, {records(0, 1), true, false}, {records(0, -1), true, false}, {records(most, 1), true, false}, {records(0, 1, gap, 2), true, false}, {records(0, 1, gap, 0), true, false}, {records(0, 1, most, 0), true, false},
		{records(0, 0), true, true}, {records(1, 0), true, true}, {records(most, 0), true, true}, {records(0, 1, 0, 1), true, true}, {records(0, 1, 1, 1), true, true}, {records(0, -1, gap, -1), true, true}, {append(published(), api.Corr{At: 1782604827, Corr: 27}), true, true}, {append(removed(), api.Corr{At: 189302399, Corr: -1}), true, true}, {append(rising(200), api.Corr{At: 199 * gap, Corr: 200}), true, true},
		// Too many.
		{rising(202), false, false}, {append(rising(201), api.Corr{At: 500 * gap, Corr: 201}), false, false}, {rising(300), false, false},
		// Out of what there is.
		{records(-1, 1), false, false}, {records(-1, 0), false, false}, {records(least, 1), false, false}, {records(least, 0), false, false}, {records(-gap, 1, 0, 2), false, false}, {records(5, 1, -5, 2), false, false},
		// No steps.
		{records(5, 2), false, false}, {records(5, -2), false, false}, {records(5, most), false, false}, {records(5, least), false, false}, {records(5, 0, 5+gap, 1), false, false}, {records(5, 0, 5+gap, 0), false, false}, {records(5, 1, 5+gap, 3), false, false}, {records(5, 1, 5+gap, -1), false, false}, {records(5, 1, 5+gap, 1, 5+2*gap, 2), false, false}, {records(5, 1, 5+gap, 1, 5+2*gap, 1), false, false},
		// Too near, the expiry too.
		{records(5, 1, 4+gap, 2), false, false}, {records(5, 1, 5, 2), false, false}, {records(5, 1, 4, 2), false, false}, {records(5, 1, 4, 1), false, false}, {records(5, 1, 0, 1), false, false}, {records(5, 1, 5+gap, 2, 4+2*gap, 1), false, false}, {records(5, 1, 5+gap, 2, 4+gap, 2), false, false}, {records(most, 1, 0, 2), false, false},
	} {
		for v := 1; v <= 4; v++ {
			right := x.right && (!x.expires || v == 4)
			for _, base := range []api.Zone{utc(), york(), sized(64, 2000)} {
				base.Foot, base.Version, base.Leaps = "", v, x.leaps
				checkRight(t, base, right)
				base.Foot = "EST5EDT,M3.2.0,M11.1.0"
				checkRight(t, base, right && v != 1)
				base.Trans = nil
				checkRight(t, base, right && v != 1)
			}
		}
	}
}

// P19.1: feet that are right, that only some versions have, and that are none, in each version, with the other parts and without.
func TestRightOfFeet(t *testing.T) {
	for v := 1; v <= 4; v++ {
		for _, base := range []api.Zone{utc(), york(), sized(64, 2000), changed(york(), func(z *api.Zone) { z.Leaps = removed() })} {
			base.Version = v
			base.Foot = ""
			checkRight(t, base, true)
			for _, s := range feet() {
				base.Foot = s
				checkRight(t, base, v >= 2)
			}
			for _, s := range farFeet() {
				base.Foot = s
				checkRight(t, base, v >= 3)
			}
			for _, s := range noFeet() {
				base.Foot = s
				checkRight(t, base, false)
			}
		}
	}
}

// P19.1: each letter too few of a foot, and a byte behind it, or ahead of it.
func TestRightOfFeetByTheByte(t *testing.T) {
	whole := "<+0530>-5:30EDT,M3.2.0/1:30,365/24"
	checkChanged(t, york(), true, func(z *api.Zone) { z.Foot = whole })
	for k := range whole {
		// Some of them are feet of their own, and of some a rule's second is another one then.
		for _, s := range []string{whole[:k], whole[:k] + whole[k+1:]} {
			checkChanged(t, york(), slowFoot(s, 2), func(z *api.Zone) { z.Foot = s })
		}
	}
	for c := range 256 {
		one := string([]byte{byte(c)})
		checkChanged(t, york(), false, func(z *api.Zone) { z.Foot = one + "EST5EDT,M3.2.0,M11.1.0" + one })
		checkChanged(t, york(), false, func(z *api.Zone) { z.Foot = "EST5EDT,M3.2.0,M11.1.0" + one })
		checkChanged(t, york(), c >= 'A' && c <= 'Z' || c >= 'a' && c <= 'z', func(z *api.Zone) { z.Foot = one + "EST5EDT,M3.2.0,M11.1.0" })
	}
}

// P19.1: the second of one rule alone, and of both, in each version and at each edge.
func TestRightOfSecondsOfRules(t *testing.T) {
	secs := map[string]int{"-167:59:59": -604799, "-24": -86400, "-1": -3600, "-0:00:01": -1, "-0": 0, "0": 0, "0:00:01": 1, "2": 7200, "23:59:59": 86399, "24": 86400, "24:00:00": 86400, "24:00:01": 86401, "25": 90000, "48": 172800, "167:59:59": 604799}
	for s, n := range secs {
		ofDay := n >= 0 && n <= 86400
		for v := 1; v <= 4; v++ {
			want := v >= 3 || v == 2 && ofDay
			for _, form := range []string{"EST5EDT,M3.2.0/@,M11.1.0", "EST5EDT,M3.2.0,M11.1.0/@", "EST5EDT,M3.2.0/@,M11.1.0/0", "EST5EDT,M3.2.0/24,M11.1.0/@", "EST5EDT,M3.2.0/@,M11.1.0/@", "<-03>3<-02>,J1/@,J365", "<-03>3<-02>,0,365/@"} {
				checkChanged(t, york(), want, func(z *api.Zone) { z.Version, z.Foot = v, strings.ReplaceAll(form, "@", s) })
			}
		}
		// Each of two is asked, whatever the other one is.
		for other, m := range secs {
			want := ofDay && m >= 0 && m <= 86400
			checkChanged(t, york(), want, func(z *api.Zone) { z.Foot = "EST5EDT,M3.2.0/" + s + ",M11.1.0/" + other })
		}
	}
	// How far the local times are from UTC has other edges.
	for v := 2; v <= 4; v++ {
		checkChanged(t, york(), true, func(z *api.Zone) { z.Version, z.Foot = v, "EST24:59:59EDT-24:59:59,M3.2.0,M11.1.0" })
		checkChanged(t, york(), true, func(z *api.Zone) { z.Version, z.Foot = v, "EST-24:59:59" })
	}
}

// P19.1: of the first version all the rest, without a foot.
func TestRightOfTheFirstVersion(t *testing.T) {
	first := changed(york(), func(z *api.Zone) { z.Foot, z.Version, z.Leaps = "", 1, published() })
	checkRight(t, first, true)
	for k, x := range []struct {
		want   bool
		change func(z *api.Zone)
	}{
		{true, func(z *api.Zone) { z.Trans[0].At, z.Trans[2].At = least, most }}, {true, func(z *api.Zone) { z.Trans[2].At = 1 << 31 }}, {true, func(z *api.Zone) { z.Trans = nil }}, {true, func(z *api.Zone) { z.Leaps = rising(201) }}, {true, func(z *api.Zone) { z.Leaps = records(1<<31, 1) }}, {true, func(z *api.Zone) { z.Leaps = nil }}, {true, func(z *api.Zone) { z.Types[0].Off, z.Types[2].Off = -89999, 93599 }}, {true, func(z *api.Zone) { z.Types = sized(64, 0).Types }}, {true, func(z *api.Zone) { z.Trans = sized(3, 2000).Trans }},
		{false, func(z *api.Zone) { z.Foot = "UTC0" }}, {false, func(z *api.Zone) { z.Foot = "EST5EDT,M3.2.0,M11.1.0" }}, {false, func(z *api.Zone) { z.Foot = "EST" }}, {false, func(z *api.Zone) { z.Leaps = records(5, 0) }}, {false, func(z *api.Zone) { z.Leaps = records(5, 2) }}, {false, func(z *api.Zone) { z.Leaps = full().Leaps }}, {false, func(z *api.Zone) { z.Types = nil }}, {false, func(z *api.Zone) { z.Types = sized(65, 0).Types }}, {false, func(z *api.Zone) { z.Trans = sized(3, 2001).Trans }}, {false, func(z *api.Zone) { z.Trans[1].At = 200 }}, {false, func(z *api.Zone) { z.Trans[1].Type = 3 }}, {false, func(z *api.Zone) { z.Types[1].Off = 93600 }}, {false, func(z *api.Zone) { z.Types[1].Abbr = "ED" }},
	} {
		z := changed(first, x.change)
		if got := Right(z); got != x.want {
			t.Errorf("%d: %s: %t", k, brief(z), got)
		}
	}
}

// P19.2: places of changes written out, at each of them, ahead of it and behind it.
func TestIndexByHand(t *testing.T) {
	for _, at := range []int{-far, -1, 0, 1, far} {
		for _, z := range []api.Zone{utc(), sized(64, 0), changed(full(), func(z *api.Zone) { z.Trans = nil })} {
			if k := Index(z, at); k != -1 {
				t.Errorf("Index of %s, %d: %d; want -1", brief(z), at, k)
			}
		}
	}
	for _, x := range []struct {
		at    []int
		wants map[int]int
	}{
		{[]int{0}, map[int]int{-far: -1, -2: -1, -1: -1, 0: 0, 1: 0, far: 0}},
		{[]int{-far}, map[int]int{-far: 0, -far + 1: 0, 0: 0, far: 0}},
		{[]int{far}, map[int]int{-far: -1, 0: -1, far - 1: -1, far: 0}},
		{[]int{least}, map[int]int{-far: 0, 0: 0, far: 0}},
		{[]int{most}, map[int]int{-far: -1, 0: -1, far: -1}},
		{[]int{least, most}, map[int]int{-far: 0, 0: 0, far: 0}},
		{[]int{5, 6}, map[int]int{-far: -1, 4: -1, 5: 0, 6: 1, 7: 1, far: 1}},
		{[]int{-9, 5}, map[int]int{-far: -1, -10: -1, -9: 0, -8: 0, 4: 0, 5: 1, 6: 1, far: 1}},
		{[]int{-9, 5, 7}, map[int]int{-10: -1, -9: 0, -8: 0, 4: 0, 5: 1, 6: 1, 7: 2, 8: 2, far: 2}},
		{[]int{-9, 5, 7, 8, 1000}, map[int]int{-10: -1, -9: 0, -8: 0, 4: 0, 5: 1, 6: 1, 7: 2, 8: 3, 9: 3, 999: 3, 1000: 4, 1001: 4, far: 4}},
	} {
		z := utc()
		for _, at := range x.at {
			z.Trans = append(z.Trans, api.Trans{At: at})
		}
		for at, want := range x.wants {
			checkAt(t, z, at, want, at, kind(0, "UTC"))
		}
	}
	for _, n := range []int{1, 2, 3, 64, 1023, 1024, 1025, 1999, 2000} {
		z := sized(64, n)
		for k, one := range z.Trans {
			checkAt(t, z, one.At-1, k-1, one.At-1, slowLookup(z, one.At-1))
			checkAt(t, z, one.At, k, one.At, z.Types[(k+1)%64])
			checkAt(t, z, one.At+1, k, one.At+1, z.Types[(k+1)%64])
		}
		checkAt(t, z, -far, -1, -far, z.Types[0])
		checkAt(t, z, far, n-1, far, z.Types[n%64])
	}
}

// P19.2: POSIX seconds written out: without leaps, at inserted seconds and removed ones, and at an expiry.
func TestPosixByHand(t *testing.T) {
	check := func(leaps []api.Corr, at, want int) {
		t.Helper()
		z := york()
		z.Leaps, z.Version = leaps, 4
		checkRight(t, z, true)
		if p := Posix(z, at); p != want {
			t.Errorf("Posix of %v, %d: %d; want %d", leaps, at, p, want)
		}
	}
	for _, at := range []int{-far, -far + 1, -1, 0, 1, 78796800, far - 1, far} {
		check(nil, at, at)
		check([]api.Corr{}, at, at)
		// An expiry is no leap, nor is it the second of one.
		check(records(78796800, 0), at, at)
		check(records(0, 0), at, at)
	}
	for at, want := range map[int]int{-far: -far, 0: 0, 78796799: 78796799, 78796800: 78796799, 78796801: 78796800, 78796802: 78796801, 94694400: 94694399, 94694401: 94694399, 94694402: 94694400, far: far - 2} {
		check(inserted(), at, want)
		for _, expiry := range []int{94694401, 94694402, 100000000, far} {
			check(append(inserted(), api.Corr{At: expiry, Corr: 2}), at, want)
		}
	}
	for at, want := range map[int]int{126230399: 126230397, 126230400: 126230398, 126230401: 126230400, 126230402: 126230401, 157766399: 157766398, 157766400: 157766400, 157766401: 157766401, 189302398: 189302398, 189302399: 189302400, 189302400: 189302401, far: far + 1} {
		check(removed(), at, want)
		check(append(removed(), api.Corr{At: max(at, 189302399), Corr: -1}), at, want)
	}
	for at, want := range map[int]int{1483228825: 1483228799, 1483228826: 1483228799, 1483228827: 1483228800, 1782604826: 1782604799, 1782604827: 1782604800, 1782604828: 1782604801} {
		check(published(), at, want)
		check(full().Leaps, at, want)
	}
	check(records(0, 1), -1, -1)
	check(records(0, 1), 0, -1)
	check(records(0, 1), 1, 0)
	check(records(0, -1), -1, -1)
	check(records(0, -1), 0, 1)
	for at, want := range map[int]int{-far: -far, 200*gap - 1: 200*gap - 201, 200 * gap: 200*gap - 201, 200*gap + 1: 200*gap - 200, far: far - 201} {
		check(rising(201), at, want)
	}
}

// P19.2: each record of many, at it, ahead of it and behind it, against the slow way.
func TestPosixOfMany(t *testing.T) {
	for _, z := range someZones() {
		for _, one := range z.Leaps {
			for _, at := range []int{one.At - 1, one.At, min(one.At, far) + 1} {
				if p := Posix(z, at); p != slowPosix(z, at) {
					t.Errorf("Posix of %s, %d: %d; want %d", brief(z), at, p, slowPosix(z, at))
				}
			}
		}
	}
}

// P19.3: local times written out: of the changes, ahead of them, and of the foot behind them.
func TestLookupByHand(t *testing.T) {
	z := york()
	lmt, edt, est := z.Types[0], z.Types[1], z.Types[2]
	begin, end := second(2024, 3, 10, 7, 0, 0), second(2024, 11, 3, 6, 0, 0)
	wants := []struct {
		at, index int
		want      api.Type
	}{
		{-far, -1, lmt}, {-2717650801, -1, lmt}, {-2717650800, 0, est}, {-2717650799, 0, est}, {99, 0, est}, {100, 1, edt}, {101, 1, edt}, {199, 1, edt}, {200, 2, est}, {201, 2, est},
		{begin - 1, 2, est}, {begin, 2, edt}, {begin + 1, 2, edt}, {end - 1, 2, edt}, {end, 2, est}, {end + 1, 2, est}, {second(1970, 7, 1, 0, 0, 0), 2, edt}, {far, 2, est},
	}
	for _, x := range wants {
		checkAt(t, z, x.at, x.index, x.at, x.want)
	}
	// Without a foot the last change's kind holds on.
	z.Foot = ""
	for _, x := range wants {
		want := x.want
		if x.index == 2 {
			want = est
		}
		checkAt(t, z, x.at, x.index, x.at, want)
	}
	// Without changes the first kind always holds, or the foot does.
	z.Trans = nil
	for _, x := range wants {
		checkAt(t, z, x.at, -1, x.at, lmt)
	}
	z.Foot = "EST5EDT,M3.2.0,M11.1.0"
	for _, x := range []struct {
		at   int
		want api.Type
	}{{-far, est}, {-2717650801, est}, {second(1880, 7, 1, 0, 0, 0), edt}, {100, est}, {begin - 1, est}, {begin, edt}, {end - 1, edt}, {end, est}, {far, est}} {
		checkAt(t, z, x.at, -1, x.at, x.want)
	}
}

// P19.3: the foot tells its own kinds, which need not be among those of the zone, and only from the last change on.
func TestFootHoldsFromTheLastChange(t *testing.T) {
	at := second(2024, 7, 1, 0, 0, 0)
	z := api.Zone{Types: []api.Type{kind(60, "AAA"), summer(120, "BBB")}, Trans: changes(at-5, 1, at, 0), Foot: "<-03>3<-02>1:59,J1/0,J365/24", Version: 2}
	checkRight(t, z, true)
	checkAt(t, z, at-6, -1, at-6, kind(60, "AAA"))
	checkAt(t, z, at-5, 0, at-5, summer(120, "BBB"))
	checkAt(t, z, at-1, 0, at-1, summer(120, "BBB"))
	checkAt(t, z, at, 1, at, summer(-7140, "-02"))
	checkAt(t, z, at+1, 1, at+1, summer(-7140, "-02"))
	checkAt(t, z, far, 1, far, kind(-10800, "-03"))
	// With one change less it begins there.
	z.Trans = z.Trans[:1]
	checkAt(t, z, at-6, -1, at-6, kind(60, "AAA"))
	checkAt(t, z, at-5, 0, at-5, summer(-7140, "-02"))
	// A foot without a time of the summer.
	z.Foot = "<+0530>-5:30"
	checkAt(t, z, at-6, -1, at-6, kind(60, "AAA"))
	checkAt(t, z, at-5, 0, at-5, kind(19800, "+0530"))
	checkAt(t, z, far, 0, far, kind(19800, "+0530"))
}

// P19.3: ahead of the first change the first kind holds, whether a change has it or none does.
func TestLookupAheadOfTheFirst(t *testing.T) {
	for _, s := range []string{"", "EST5EDT,M3.2.0,M11.1.0"} {
		for n := 1; n <= 3; n++ {
			z := york()
			z.Trans, z.Foot = z.Trans[:n], s
			checkAt(t, z, -2717650801, -1, -2717650801, kind(-17762, "LMT"))
			checkAt(t, z, -far, -1, -far, kind(-17762, "LMT"))
			z.Types[0] = summer(93599, "AAA")
			checkAt(t, z, -2717650801, -1, -2717650801, summer(93599, "AAA"))
			z.Trans[0].Type = 0
			checkAt(t, z, -2717650801, -1, -2717650801, summer(93599, "AAA"))
		}
	}
}

// P19.3: with leap seconds the changes are at the zone's own seconds, and the foot is asked for the POSIX second.
func TestLookupWithLeaps(t *testing.T) {
	z := york()
	z.Leaps = inserted()
	est, edt := z.Types[2], z.Types[1]
	z.Trans = append(z.Trans, api.Trans{At: second(1990, 1, 1, 0, 0, 0), Type: 2})
	z.Trans = append(z.Trans, api.Trans{At: second(1991, 1, 1, 0, 0, 0) + 1, Type: 1}, api.Trans{At: second(1992, 1, 1, 0, 0, 0), Type: 1})
	for at, want := range map[int]api.Type{second(1991, 1, 1, 0, 0, 0): est, second(1991, 1, 1, 0, 0, 0) + 1: edt, second(1992, 1, 1, 0, 0, 0) - 1: edt, second(1992, 1, 1, 0, 0, 0): est} {
		checkAt(t, z, at, slowIndex(z, at), at-2, want)
	}
	begin, end := second(2024, 3, 10, 7, 0, 0), second(2024, 11, 3, 6, 0, 0)
	for _, x := range []struct {
		leaps []api.Corr
		sum   int
	}{{inserted(), 2}, {removed(), -1}, {published(), 27}, {full().Leaps, 27}, {nil, 0}, {records(78796800, 0), 0}} {
		z.Leaps, z.Version = x.leaps, 4
		for at, want := range map[int]api.Type{begin - 2: est, begin - 1: est, begin: edt, begin + 1: edt, end - 1: edt, end: est, end + 1: est} {
			checkAt(t, z, at+x.sum, 5, at, want)
		}
	}
	// Where the summer begins with an inserted second, the second ahead of it, which has the same POSIX second, is ahead of the summer, too.
	z = api.Zone{Types: []api.Type{kind(0, "AAA")}, Foot: "AAA0BBB,J182/0,J300", Leaps: records(78796800, 1), Version: 2}
	for at, want := range map[int]api.Type{78796799: kind(0, "AAA"), 78796800: kind(0, "AAA"), 78796801: summer(3600, "BBB")} {
		checkAt(t, z, at, -1, at-min(1, max(0, at-78796799)), want)
	}
	// And with a removed one it begins where its POSIX second would have been.
	z.Leaps = records(78796799, -1)
	for at, want := range map[int]api.Type{78796797: kind(0, "AAA"), 78796798: kind(0, "AAA"), 78796799: summer(3600, "BBB"), 78796800: summer(3600, "BBB")} {
		checkAt(t, z, at, -1, slowPosix(z, at), want)
	}
}

// footTurns are the seconds of a zone at which a kind of its foot may end: where the summers of some years begin and end, and these years.
func footTurns(z api.Zone, years ...int) []int {
	var l []int
	f, _ := foot.Parse(z.Foot)
	for _, y := range years {
		from, to, _ := foot.Span(f, y)
		first := second(y, 1, 1, 0, 0, 0) - f.Std.Off
		next := second(y+1, 1, 1, 0, 0, 0) - f.Std.Off
		for _, p := range []int{from, to, first, next} {
			l = append(l, atOf(z, p))
		}
	}
	return slices.Compact(slices.Sorted(slices.Values(l)))
}

// turns are the changes of a zone, and the seconds at which a kind of its foot may end in some years.
func turns(z api.Zone, years ...int) []int {
	var l []int
	for _, one := range z.Trans {
		l = append(l, one.At)
	}
	return append(l, footTurns(z, years...)...)
}

// atOf tells the first second of a zone whose POSIX second is p, or a later one.
func atOf(z api.Zone, p int) int {
	at := p - 300
	for slowPosix(z, at) < p {
		at++
	}
	return at
}

// P19.2, P19.3: all zones at all seconds where something turns, one ahead and one behind, against the slow ways.
func TestLookups(t *testing.T) {
	for _, z := range someZones() {
		all := append(turns(z, 1, 1884, 1972, 2000, 2023, 2024, 9999), -far, -1, 0, 1, far-1)
		for _, one := range z.Leaps {
			all = append(all, one.At)
		}
		for _, at := range all {
			for _, n := range []int{at - 1, at, at + 1} {
				if n >= -far && n <= far {
					checkSlow(t, z, n)
				}
			}
		}
	}
}

// anyZone tells a right zone of any parts.
func anyZone(r *rand.Rand) api.Zone {
	z := api.Zone{Version: 1 + r.Intn(4)}
	for range 1 + r.Intn([]int{1, 3, 12}[r.Intn(3)]) {
		z.Types = append(z.Types, api.Type{Off: []int{-89999, 93599, 0, 3600 * (r.Intn(24) - 12), r.Intn(93600+89999) - 89999}[r.Intn(5)], Dst: r.Intn(2) == 0, Abbr: names(12)[r.Intn(12)]})
	}
	at := []int{least, -far, -1 << 40, -2717650800, 0, r.Intn(1 << 31)}[r.Intn(6)]
	for range r.Intn([]int{1, 2, 9, 60}[r.Intn(4)]) {
		z.Trans = append(z.Trans, api.Trans{At: at, Type: r.Intn(len(z.Types))})
		at += 1 + r.Intn([]int{1, 5, 1 << 25, 1 << 28}[r.Intn(4)])
	}
	at, sum := r.Intn(1<<28), 0
	for range r.Intn([]int{1, 2, 9, 60}[r.Intn(4)]) {
		sum += 2*r.Intn(2) - 1
		z.Leaps = append(z.Leaps, api.Corr{At: at, Corr: sum})
		at += gap + r.Intn(2)*r.Intn(1<<25)
	}
	if z.Version == 4 && r.Intn(2) == 0 {
		z.Leaps = append(z.Leaps, api.Corr{At: at - r.Intn(2)*gap, Corr: sum})
	}
	all := [][]string{{""}, feet(), append(feet(), farFeet()...), append(feet(), farFeet()...)}[z.Version-1]
	if r.Intn(4) > 0 {
		z.Foot = all[r.Intn(len(all))]
	}
	return z
}

// anySecond tells a second near where something turns in z, or any other one.
func anySecond(r *rand.Rand, z api.Zone) int {
	l := turns(z, 1950+r.Intn(100))
	for _, one := range z.Leaps {
		l = append(l, one.At)
	}
	at := []int{-far, far, 0, r.Intn(2*far) - far, r.Intn(1<<33) - 1<<32}[r.Intn(5)]
	if len(l) > 0 && r.Intn(4) > 0 {
		at = l[r.Intn(len(l))] + r.Intn(5) - 2
	}
	return min(far, max(-far, at))
}

// P19.1 to P19.3: any zones, and any seconds of them, against the slow ways.
func TestAnyZones(t *testing.T) {
	r := rand.New(rand.NewSource(19))
	kinds := map[string]int{}
	for range 5000 {
		z := anyZone(r)
		checkRight(t, z, true)
		for range 6 {
			at := anySecond(r, z)
			checkSlow(t, z, at)
			switch k := slowIndex(z, at); {
			case z.Foot != "" && k+1 == len(z.Trans):
				kinds["foot"]++
			case k < 0:
				kinds["first"]++
			default:
				kinds["change"]++
			}
		}
	}
	if kinds["foot"] < 3000 || kinds["first"] < 3000 || kinds["change"] < 3000 {
		t.Errorf("of the seconds so many are of each: %v", kinds)
	}
}

// P19.1: any zones that are changed in one thing or two, right or not, against the slow way.
func TestAnyWrongZones(t *testing.T) {
	r := rand.New(rand.NewSource(191))
	rights := 0
	number := func() int {
		return []int{least, most, -90000, -89999, 93599, 93600, -1, 0, 1, 5, gap, r.Intn(100) - 50}[r.Intn(12)]
	}
	for range 20000 {
		z := anyZone(r)
		for range 1 + r.Intn(2) {
			k := r.Intn(len(z.Types))
			switch r.Intn(8) {
			case 0:
				z.Version = r.Intn(8) - 1
			case 1:
				z.Types[k].Off = number()
			case 2:
				z.Types[k].Abbr = []string{"", "EST", "E T", "abcdefghijklmnopq"}[r.Intn(4)]
			case 3:
				z.Trans = append(z.Trans, api.Trans{At: number(), Type: number()})
			case 4:
				z.Trans = append(changes(number(), r.Intn(4)), z.Trans...)
			case 5:
				z.Leaps = append(z.Leaps, api.Corr{At: number(), Corr: r.Intn(3)})
			case 6:
				z.Foot = slices.Concat(feet(), farFeet(), noFeet())[r.Intn(60)]
			case 7:
				z.Leaps = append(records(number(), r.Intn(3)), z.Leaps...)
			}
		}
		checkRight(t, z, slowRight(z))
		if slowRight(z) {
			rights++
		}
	}
	if rights < 3000 || rights > 17000 {
		t.Errorf("of 20000 zones %d are right", rights)
	}
}

// stretches are rows of seconds of a right zone, from one to the one behind the other, in which nothing changes: each between two changes, and some of the foot.
func stretches(z api.Zone) [][2]int {
	ends := []int{-far}
	for _, one := range z.Trans {
		if one.At > -far && one.At < far {
			ends = append(ends, one.At)
		}
	}
	last := ends[len(ends)-1]
	f, ok := foot.Parse(z.Foot)
	var all [][2]int
	if !ok || !f.Has {
		ends = append(ends, far+1)
	} else if len(z.Trans) > 0 {
		all = append(all, between(footTurns(z, 9996, 9997, 9998, 9999), last)...)
		if y := time.Unix(int64(last), 0).UTC().Year(); y > 1 && y < 9990 {
			all = append(all, between(append([]int{last}, footTurns(z, y-1, y, y+1, y+2)...), last)...)
		}
	} else {
		return between(footTurns(z, 2020, 2021, 2022, 2023, 2024), -far)
	}
	return append(all, between(ends, -far)...)
}

// between tells each stretch between two of some seconds, from a first one on.
func between(l []int, first int) [][2]int {
	var all [][2]int
	l = slices.Compact(slices.Sorted(slices.Values(l)))
	for k := range max(1, len(l)) - 1 {
		if l[k] >= first {
			all = append(all, [2]int{l[k], l[k+1]})
		}
	}
	return all
}

// P19.5: between two changes one kind holds, over many zones and seconds.
func TestOneKindBetweenChanges(t *testing.T) {
	r := rand.New(rand.NewSource(195))
	zones := someZones()
	for range 1500 {
		zones = append(zones, anyZone(r))
	}
	for _, z := range zones {
		for _, x := range stretches(z) {
			want := Lookup(z, x[0])
			for _, at := range []int{x[0] + r.Intn(x[1]-x[0]), x[0] + r.Intn(x[1]-x[0]), x[0] + min(1, x[1]-x[0]-1), x[1] - 1} {
				if got := Lookup(z, at); got != want {
					t.Errorf("Lookup of %s, %d: %+v; from %d to %d: %+v", brief(z), at, got, x[0], x[1], want)
				}
			}
		}
	}
}

// P19.5: each hour of two years, of a foot's zone with leap seconds: the kind changes but where the summer begins and ends.
func TestEachHour(t *testing.T) {
	z := full()
	from, to := second(2024, 3, 10, 7, 0, 0)+27, second(2024, 11, 3, 6, 0, 0)+27
	for at := second(2023, 12, 1, 0, 0, 0); at < second(2025, 2, 1, 0, 0, 0); at += 3600 {
		for _, n := range []int{at + 26, at + 27} {
			want := kind(-18000, "EST")
			if n >= from && n < to {
				want = summer(-14400, "EDT")
			}
			checkAt(t, z, n, 2, n-27, want)
		}
	}
}

// P19.4: copies are the same, of zones with and without each part, right and not.
func TestCopy(t *testing.T) {
	all := slices.Concat(someZones(), wrongZones(), []api.Zone{sized(300, 5000), {Leaps: records(1, 2, 3, 4)}, {Trans: changes(5, 6)}, {Foot: "\x00\xff"}, {Version: least}, {Types: []api.Type{{}}}, {Types: []api.Type{}, Trans: []api.Trans{}, Leaps: []api.Corr{}}})
	for _, z := range all {
		had := copied(z)
		c := Copy(z)
		if !equal(c, had) {
			t.Errorf("Copy of %s: %s", brief(had), brief(c))
		}
		if !equal(z, had) {
			t.Errorf("Copy of %s changed it to %s", brief(had), brief(z))
		}
		checkSame(t, c, z, true)
		checkSame(t, Copy(c), had, true)
	}
}

// roomy tells l as a piece of a list, with others ahead of it and in its spare room, and the whole.
func roomy[E any](l []E, other E) ([]E, []E) {
	whole := slices.Concat([]E{other}, l, slices.Repeat([]E{other}, 70))
	return whole[1 : 1+len(l)], whole
}

// room is a zone whose lists are pieces of greater ones.
type room struct {
	zone  api.Zone
	types []api.Type
	trans []api.Trans
	leaps []api.Corr
}

func roomOf(z api.Zone) room {
	r := room{zone: z}
	r.zone.Types, r.types = roomy(z.Types, api.Type{Off: 77, Dst: true, Abbr: "ZZZ"})
	r.zone.Trans, r.trans = roomy(z.Trans, api.Trans{At: 77, Type: 7})
	r.zone.Leaps, r.leaps = roomy(z.Leaps, api.Corr{At: 77, Corr: 7})
	return r
}

// isAs tells whether all of the greater lists are as those of another one.
func (r room) isAs(o room) bool {
	return slices.Equal(r.types, o.types) && slices.Equal(r.trans, o.trans) && slices.Equal(r.leaps, o.leaps)
}

// spoil changes all of z's lists, their spare room too.
func spoil(z api.Zone) {
	for k := range z.Types[:cap(z.Types)] {
		z.Types[:cap(z.Types)][k] = api.Type{Off: 99, Abbr: "spoilt"}
	}
	for k := range z.Trans[:cap(z.Trans)] {
		z.Trans[:cap(z.Trans)][k] = api.Trans{At: 99, Type: 9}
	}
	for k := range z.Leaps[:cap(z.Leaps)] {
		z.Leaps[:cap(z.Leaps)][k] = api.Corr{At: 99, Corr: 9}
	}
}

// P19.4, W6: nothing that is written into a copy, or into what was copied, or into the spare room of either, shows in the other.
func TestCopiesAreNewMemory(t *testing.T) {
	zones := append(someZones(), wrongZones()...)
	for _, z := range append(zones, api.Zone{}, api.Zone{Types: []api.Type{{}}}, api.Zone{Trans: changes(5, 6)}, api.Zone{Leaps: records(1, 2)}) {
		mine, had := roomOf(z), roomOf(z)
		first, second := Copy(mine.zone), Copy(mine.zone)
		spoil(first)
		first.Types = append(first.Types, api.Type{Off: 98})
		first.Trans = append(first.Trans, api.Trans{At: 98})
		first.Leaps = append(first.Leaps, api.Corr{At: 98})
		if !mine.isAs(had) {
			t.Errorf("a copy shares memory with %s", brief(had.zone))
		}
		if !equal(second, z) {
			t.Errorf("two copies of %s share memory", brief(z))
		}
		third := Copy(second)
		spoil(mine.zone)
		if !equal(second, z) || !equal(third, z) {
			t.Errorf("a copy of %s changed with it: %s", brief(z), brief(second))
		}
		spoil(second)
		if !equal(third, z) {
			t.Errorf("a copy of a copy changed with it: %s", brief(third))
		}
	}
}

// shares tells whether two texts that are not empty share memory.
func shares(a, b string) bool {
	first, second := uintptr(unsafe.Pointer(unsafe.StringData(a))), uintptr(unsafe.Pointer(unsafe.StringData(b)))
	return a != "" && b != "" && first < second+uintptr(len(b)) && second < first+uintptr(len(a))
}

// P19.4, W6: the texts that are answered share memory neither with those handed in, nor with each other.
func TestTextsAreNewMemory(t *testing.T) {
	for _, z := range []api.Zone{utc(), york(), full(), sized(9, 20)} {
		c := Copy(z)
		if shares(c.Foot, z.Foot) {
			t.Errorf("the foot %q shares memory", c.Foot)
		}
		for k, one := range c.Types {
			for j, other := range z.Types {
				if shares(one.Abbr, other.Abbr) || j != k && shares(one.Abbr, c.Types[j].Abbr) {
					t.Errorf("the names %q and %q share memory", one.Abbr, other.Abbr)
				}
			}
		}
		for _, at := range []int{-far, 0, 150, 500, second(2024, 1, 1, 0, 0, 0), second(2024, 7, 1, 0, 0, 0), far} {
			name := Lookup(z, at).Abbr
			for _, other := range z.Types {
				if shares(name, other.Abbr) || shares(name, z.Foot) {
					t.Errorf("the name %q at %d shares memory", name, at)
				}
			}
		}
	}
	if one := "EST5"; !shares(one[:3], one) {
		t.Error("what shares memory is not seen")
	}
}

// P19.4: zones that differ in one field alone, each field of each part at the ends and in the middle.
func TestSameByEachField(t *testing.T) {
	for _, base := range []api.Zone{full(), sized(64, 2000), changed(utc(), func(z *api.Zone) { z.Trans, z.Leaps = changes(5, 0), records(5, 1) }), {Types: make([]api.Type, 3), Trans: make([]api.Trans, 3), Leaps: make([]api.Corr, 3)}} {
		checkSame(t, base, base, true)
		checkSame(t, base, copied(base), true)
		check := func(change func(z *api.Zone)) {
			t.Helper()
			z := changed(base, change)
			checkSame(t, base, z, false)
			checkSame(t, z, z, true)
			checkSame(t, copied(z), z, true)
		}
		for _, n := range []int{1, -1, 1 << 8, 1 << 32, least} {
			for _, k := range ends(len(base.Types)) {
				check(func(z *api.Zone) { z.Types[k].Off += n })
				check(func(z *api.Zone) { z.Types[k].Dst = !z.Types[k].Dst })
			}
			for _, k := range ends(len(base.Trans)) {
				check(func(z *api.Zone) { z.Trans[k].At += n })
				check(func(z *api.Zone) { z.Trans[k].Type += n })
			}
			for _, k := range ends(len(base.Leaps)) {
				check(func(z *api.Zone) { z.Leaps[k].At += n })
				check(func(z *api.Zone) { z.Leaps[k].Corr += n })
			}
			check(func(z *api.Zone) { z.Version += n })
		}
		for _, s := range []string{"x", "\x00", " "} {
			for _, k := range ends(len(base.Types)) {
				check(func(z *api.Zone) { z.Types[k].Abbr += s })
				check(func(z *api.Zone) { z.Types[k].Abbr = s + z.Types[k].Abbr })
				check(func(z *api.Zone) { z.Types[k].Abbr = strings.ToLower(z.Types[k].Abbr) + "e" })
			}
			check(func(z *api.Zone) { z.Foot += s })
			check(func(z *api.Zone) { z.Foot = s + z.Foot })
		}
		checkSameByHowMany(t, base)
	}
	checkSame(t, york(), changed(york(), func(z *api.Zone) { z.Foot = "" }), false)
	checkSame(t, york(), changed(york(), func(z *api.Zone) { z.Foot = "EST5EDT,M3.2.0,M11.1.1" }), false)
	checkSame(t, york(), changed(york(), func(z *api.Zone) { z.Foot = "EST5EDT,M3.2.0/2,M11.1.0" }), false)
}

// ends tells the places at the ends of a row and in its middle.
func ends(n int) []int {
	if n == 0 {
		return nil
	}
	return []int{0, n / 2, n - 1}
}

// checkSameByHowMany asks zones that have one more of something, or one less, at either end, or none.
func checkSameByHowMany(t *testing.T, base api.Zone) {
	t.Helper()
	for _, change := range []func(z *api.Zone){
		func(z *api.Zone) { z.Types = append(z.Types, z.Types[0]) },
		func(z *api.Zone) { z.Types = append(z.Types, api.Type{}) },
		func(z *api.Zone) { z.Types = z.Types[:len(z.Types)-1] },
		func(z *api.Zone) { z.Types = z.Types[1:] },
		func(z *api.Zone) { z.Types = nil },
		func(z *api.Zone) { z.Trans = append(z.Trans, api.Trans{}) },
	} {
		checkSame(t, base, changed(base, change), false)
	}
	if len(base.Trans) > 0 {
		for _, change := range []func(z *api.Zone){
			func(z *api.Zone) { z.Trans = append(z.Trans, z.Trans[0]) }, func(z *api.Zone) { z.Trans = z.Trans[:len(z.Trans)-1] }, func(z *api.Zone) { z.Trans = z.Trans[1:] }, func(z *api.Zone) { z.Trans = nil },
		} {
			checkSame(t, base, changed(base, change), false)
		}
	}
	checkSame(t, base, changed(base, func(z *api.Zone) { z.Leaps = append(z.Leaps, api.Corr{}) }), false)
	if len(base.Leaps) > 0 {
		for _, change := range []func(z *api.Zone){
			func(z *api.Zone) { z.Leaps = append(z.Leaps, z.Leaps[0]) }, func(z *api.Zone) { z.Leaps = z.Leaps[:len(z.Leaps)-1] }, func(z *api.Zone) { z.Leaps = z.Leaps[1:] }, func(z *api.Zone) { z.Leaps = nil },
		} {
			checkSame(t, base, changed(base, change), false)
		}
	}
}

// P19.4, W5: nil lists and empty ones are the same, in Same, and to all other calls.
func TestNilAndEmpty(t *testing.T) {
	for _, base := range []api.Zone{{}, {Version: 2, Foot: "UTC0"}} {
		empty := base
		empty.Types, empty.Trans, empty.Leaps = []api.Type{}, make([]api.Trans, 0, 5), []api.Corr{}
		checkSame(t, base, empty, true)
		checkSame(t, Copy(base), Copy(empty), true)
		checkRight(t, empty, false)
	}
	for _, z := range []api.Zone{utc(), changed(utc(), func(z *api.Zone) { z.Foot = "EST5EDT,M3.2.0,M11.1.0" })} {
		empty := changed(z, func(z *api.Zone) { z.Trans, z.Leaps = []api.Trans{}, []api.Corr{} })
		checkSame(t, z, empty, true)
		checkRight(t, empty, true)
		for _, at := range []int{-far, 0, second(2024, 7, 1, 0, 0, 0), far} {
			checkSlow(t, empty, at)
		}
	}
	checkSame(t, api.Zone{}, api.Zone{Types: []api.Type{{}}}, false)
	checkSame(t, api.Zone{}, api.Zone{Trans: []api.Trans{{}}}, false)
	checkSame(t, api.Zone{}, api.Zone{Leaps: []api.Corr{{}}}, false)
	checkSame(t, api.Zone{}, api.Zone{}, true)
}

// P19.4: zones that are held against each other, all with all, right and not.
func TestSameOfAll(t *testing.T) {
	all := append(someZones()[:60], wrongZones()...)
	var texts []string
	for _, z := range all {
		texts = append(texts, textOf(z))
	}
	for k, a := range all {
		for j, b := range all {
			if got, want := Same(a, b), texts[k] == texts[j]; got != want {
				t.Errorf("Same of %s and %s: %t", brief(a), brief(b), got)
			}
		}
	}
}

// P19.4, W6: no call changes what it is handed, nor its spare room.
func TestNothingIsChanged(t *testing.T) {
	for _, z := range append(someZones(), wrongZones()...) {
		mine, had := roomOf(z), roomOf(z)
		Right(mine.zone)
		for _, at := range []int{-far, -1, 0, 150, second(2024, 7, 1, 0, 0, 0), far} {
			Index(mine.zone, at)
			Posix(mine.zone, at)
			Lookup(mine.zone, at)
		}
		Copy(mine.zone)
		Same(mine.zone, had.zone)
		Same(had.zone, mine.zone)
		if !mine.isAs(had) || !equal(mine.zone, z) {
			t.Errorf("%s was changed", brief(z))
		}
	}
}

// answers tells what all calls answer, of many arguments, as a text.
func answers() string {
	var all strings.Builder
	zones := append(someZones()[:40], wrongZones()...)
	for k, z := range zones {
		fmt.Fprintln(&all, Right(z), Same(z, zones[(k+1)%len(zones)]), Same(z, copied(z)), Copy(z))
		for _, at := range []int{-far, -2717650801, 0, 150, 78796800, second(2024, 1, 1, 0, 0, 0), second(2024, 7, 1, 0, 0, 0), far} {
			fmt.Fprintln(&all, Index(z, at), Posix(z, at), Lookup(z, at))
		}
	}
	return all.String()
}

// W2: no call hangs on an earlier one, whatever came between: nothing of the package is changed.
func TestNothingIsKept(t *testing.T) {
	had := answers()
	for _, z := range someZones()[:30] {
		at := second(2024, 7, 1, 0, 0, 0)
		for _, other := range append(someZones()[20:40], wrongZones()[:20]...) {
			checkSlow(t, z, at)
			checkRight(t, other, slowRight(other))
			Lookup(other, at)
			spoil(Copy(other))
		}
	}
	if again := answers(); again != had {
		t.Error("the answers are others than they were")
	}
}

// W1: of zones that are not right nothing is promised of Index, Posix and Lookup, nor of other seconds, but none of them panics.
func TestOfWrongZonesNothingPanics(t *testing.T) {
	for _, z := range append(wrongZones(), someZones()...) {
		for _, at := range []int{least, least + 1, -far - 1, -far, 0, 100, 1720000000, far, far + 1, most - 1, most} {
			Index(z, at)
			Posix(z, at)
			Lookup(z, at)
		}
	}
}

// W2: calls at the same time, of the same things, do not touch each other.
func TestCallsAtTheSameTime(t *testing.T) {
	want := answers()
	var all sync.WaitGroup
	for range 16 {
		all.Go(func() {
			for range 3 {
				if got := answers(); got != want {
					t.Error("other answers at the same time as others")
				}
			}
		})
	}
	all.Wait()
}

// W1, P19.1 to P19.4: whatever zone and second.
func FuzzZone(f *testing.F) {
	for k, s := range slices.Concat(feet(), farFeet(), noFeet()) {
		f.Add(s, "EST", 1+k%4, 900*k-36000, 1+k%3, 5*k, 1000*k, k%3, 78796800+k, 1+k%2, 1<<k%60)
	}
	f.Add("", "E T", least, most, 65, least, most, least, most, least, least)
	f.Add("UTC0", "UTC", 4, 93599, 64, -far, 1<<61, 63, 0, 0, far)
	f.Fuzz(func(t *testing.T, s, name string, version, off, kinds, first, step, to, leap, corr, at int) {
		z := sized(max(0, kinds%70), 0)
		z.Foot, z.Version = s, version
		if len(z.Types) > 0 {
			z.Types[len(z.Types)-1] = api.Type{Off: off, Dst: corr > 0, Abbr: name}
		}
		z.Trans = changes(first, 0, first+step, to)
		z.Leaps = records(leap, 1, leap+step, corr)
		for _, z := range []api.Zone{z, changed(z, func(z *api.Zone) { z.Trans = z.Trans[:1] }), changed(z, func(z *api.Zone) { z.Leaps = z.Leaps[:1] }), changed(z, func(z *api.Zone) { z.Trans, z.Leaps = nil, nil })} {
			right := slowRight(z)
			checkRight(t, z, right)
			if n := min(far, max(-far, at)); right {
				checkSlow(t, z, n)
			}
			Index(z, at)
			Posix(z, at)
			Lookup(z, at)
			c := Copy(z)
			if !equal(c, z) || !Same(c, z) {
				t.Errorf("Copy of %s: %s", brief(z), brief(c))
			}
			spoil(c)
			if other := changed(z, func(z *api.Zone) { z.Version++ }); Same(other, z) {
				t.Errorf("Same of %s and %s", brief(other), brief(z))
			}
		}
	})
}
