package foot

import (
	"fmt"
	"math/big"
	"math/rand"
	"regexp"
	"strconv"
	"strings"
	"sync"
	"testing"
	"time"
	"unsafe"

	"epact/api"
)

const (
	most  = api.MaxInt
	least = api.MinInt
)

// weeks, julian and days tell rules.
func weeks(a, b, c, sec int) api.Rule {
	return api.Rule{Kind: api.RuleWeek, A: a, B: b, C: c, Sec: sec}
}
func julian(a, sec int) api.Rule { return api.Rule{Kind: api.RuleJulian, A: a, Sec: sec} }
func days(a, sec int) api.Rule   { return api.Rule{Kind: api.RuleDay, A: a, Sec: sec} }

// plain tells a foot without a time of the summer, and summer one with it.
func plain(name string, off int) api.Foot {
	return api.Foot{Std: api.Type{Off: off, Abbr: name}}
}
func summer(name string, off int, other string, far int, from, to api.Rule) api.Foot {
	return api.Foot{Std: api.Type{Off: off, Abbr: name}, Dst: api.Type{Off: far, Dst: true, Abbr: other}, Has: true, From: from, To: to}
}

// york is the foot of the chapter's example.
func york() api.Foot {
	return summer("EST", -18000, "EDT", -14400, weeks(3, 2, 0, 7200), weeks(11, 1, 0, 7200))
}

// changed tells f, changed.
func changed(f api.Foot, change func(f *api.Foot)) api.Foot {
	change(&f)
	return f
}

func rightNames() []string {
	return []string{"EST", "est", "eSt", "AAA", "ZZZ", "aaa", "zzz", "abcdefghijklmnop", "ABCDEFGHIJKLMNOP", "QRSTUVWXYZ", "qrstuvwxyz", "+05", "-05", "+0530", "-0330", "000", "999", "+++", "---", "E4T", "4ET", "ET4", "+ET", "E-T", "ET+", "0123456789012345", "ABCDEFGHIJKLMNO9", "+BCDEFGHIJKLMNOP"}
}

func wrongNames() []string {
	return []string{
		"", "E", "ES", "+", "-5", "ABCDEFGHIJKLMNOPQ", "ABCDEFGHIJKLMNOPQRSTUVWXYZ", "01234567890123456", strings.Repeat("E", 256+3), strings.Repeat("E", 1<<16),
		"E T", " EST", "EST ", "   ", "\tEST", "<EST>", "<EST", "EST>", "<>", "<<<", ">>>", "E<T", "E>T", "E,T", "E.T", "E/T", "E:T", "E_T", "E@T", "E[T", "E`T", "E{T", "EST\n", "EST\x00", "\x00\x00\x00", "E\x7fT", "E\x80T", "\xff\xff\xff", "\xc3\x89ST", "\u0395\u03a3\u03a4", "\u0435st", "\u0663\u0664\u0665", "\uff25\uff33\uff34", "\u2212" + "05", "E\u0301ST",
	}
}

func rightOffs() []int {
	l := []int{0}
	for _, n := range []int{1, 9, 59, 60, 61, 599, 600, 1800, 3599, 3600, 3601, 3660, 5400, 16200, 18000, 19800, 36000, 43200, 86399, 86400, 86401, 89940, 89998, 89999} {
		l = append(l, n, -n)
	}
	return l
}

func wrongOffs() []int {
	return []int{90000, -90000, 90001, -90001, 93599, 93600, -93600, 100000, -100000, 604799, -604799, 604800, 1 << 32, 1<<32 + 3600, -1 << 32, -1<<32 + 3600, most, most - 1, most - 3600, -most, least, least + 1, least + 3600}
}

func rightRules() []api.Rule {
	return []api.Rule{
		weeks(3, 2, 0, 7200), weeks(11, 1, 0, 7200), weeks(1, 1, 0, 0), weeks(12, 5, 6, -3600), weeks(3, 5, 0, 3600), weeks(10, 5, 0, 604799), weeks(2, 5, 4, -604799), weeks(4, 4, 4, 180000), weeks(10, 3, 3, 5400),
		julian(1, 7200), julian(59, 0), julian(60, 7200), julian(365, 90000), julian(100, -1), julian(364, 3661),
		days(0, 0), days(0, 7200), days(59, 7200), days(60, 10800), days(365, 7200), days(365, 604799), days(9, -604799), days(300, 86400),
	}
}

func wrongRules() []api.Rule {
	return []api.Rule{
		{}, {A: 1}, {B: 1}, {Sec: 7200}, weeks(0, 1, 0, 7200), weeks(13, 1, 0, 7200), weeks(1, 0, 0, 7200), weeks(1, 6, 0, 7200), weeks(1, 1, -1, 7200), weeks(1, 1, 7, 7200), weeks(1, 1, 1, 604800), weeks(1, 1, 1, -604800),
		julian(0, 0), julian(366, 0), julian(-1, 0), julian(1, 604800), julian(1, least), days(-1, 0), days(366, 0), days(0, -604800), days(0, most), {Kind: 1, A: 1, B: 1}, {Kind: 2, C: 1}, {Kind: 3, A: 1, B: 1}, {Kind: -1, A: 1, B: 1}, {Kind: least}, {Kind: most}, {Kind: 1, A: most}, {Kind: 2, A: least},
	}
}

// rightFeet are feet that are right, at all edges and between.
func rightFeet() []api.Foot {
	l := []api.Foot{}
	for _, off := range rightOffs() {
		l = append(l, plain("EST", off), plain("+0530", off))
		for _, far := range []int{0, off, min(off+3600, 89999), min(off+3601, 89999), max(off-3600, -89999), -off} {
			l = append(l, summer("EST", off, "EDT", far, weeks(3, 2, 0, 7200), weeks(11, 1, 0, 7200)), summer("-03", off, "e4t", far, weeks(11, 1, 0, -3600), days(60, 90000)))
		}
	}
	for k, name := range rightNames() {
		other := rightNames()[(k*5+3)%len(rightNames())]
		l = append(l, plain(name, 3600*k-43200), summer(name, 1000*k, other, 1000*k+3600, julian(60, 0), days(300, 7200)), summer(other, -1000*k, name, 0, julian(1, 0), days(0, 7200)))
	}
	for _, from := range rightRules() {
		for _, to := range rightRules() {
			l = append(l, summer("CET", 3600, "CEST", 7200, from, to), summer("-03", -10800, "-02", -7201, from, to))
		}
	}
	return l
}

// wrongFeet are feet that are not right, each of them in one thing.
func wrongFeet() []api.Foot {
	l := []api.Foot{{}}
	add := func(f api.Foot, change func(f *api.Foot)) { l = append(l, changed(f, change)) }
	for _, f := range []api.Foot{plain("EST", -18000), plain("+00", 0), york(), changed(york(), func(f *api.Foot) { f.From, f.To = julian(1, 0), days(365, 0) })} {
		for _, name := range wrongNames() {
			add(f, func(f *api.Foot) { f.Std.Abbr = name })
			add(f, func(f *api.Foot) { f.Dst.Abbr = name + " " })
			if f.Has {
				add(f, func(f *api.Foot) { f.Dst.Abbr = name })
			}
		}
		for _, off := range wrongOffs() {
			add(f, func(f *api.Foot) { f.Std.Off = off })
			add(f, func(f *api.Foot) { f.Dst.Off = off })
			// The summer's may not be right by being that of the usual time and an hour.
			add(f, func(f *api.Foot) { f.Std.Off, f.Dst.Off = off, off+3600 })
		}
		for _, r := range wrongRules()[1:] {
			add(f, func(f *api.Foot) { f.From = r })
			add(f, func(f *api.Foot) { f.To = r })
			add(f, func(f *api.Foot) { f.From, f.To = r, r })
		}
		add(f, func(f *api.Foot) { f.Std.Dst = true })
		add(f, func(f *api.Foot) { f.Dst.Dst = !f.Dst.Dst })
		add(f, func(f *api.Foot) { f.Has = !f.Has })
		add(f, func(f *api.Foot) { f.Std = api.Type{} })
	}
	add(york(), func(f *api.Foot) { f.Dst = api.Type{} })
	add(york(), func(f *api.Foot) { f.Dst = api.Type{Dst: true} })
	add(york(), func(f *api.Foot) { f.From = api.Rule{} })
	add(york(), func(f *api.Foot) { f.To = api.Rule{} })
	for _, change := range lones() {
		add(plain("EST", -18000), change)
		add(plain("+00", 0), change)
	}
	return l
}

// lones are changes, each of one field that a foot without Has has zero.
func lones() []func(f *api.Foot) {
	l := []func(f *api.Foot){func(f *api.Foot) { f.Dst.Dst = true }, func(f *api.Foot) { f.Dst.Abbr = "E" }, func(f *api.Foot) { f.Dst.Abbr = "EDT" }, func(f *api.Foot) { f.Dst.Abbr = "\x00" }}
	for _, n := range []int{1, -1, 3600, 7200, 1 << 8, 1 << 32, least, most} {
		l = append(l, func(f *api.Foot) { f.Dst.Off = n })
		for _, field := range []func(f *api.Foot) *api.Rule{func(f *api.Foot) *api.Rule { return &f.From }, func(f *api.Foot) *api.Rule { return &f.To }} {
			l = append(l, func(f *api.Foot) { field(f).Kind = n }, func(f *api.Foot) { field(f).A = n }, func(f *api.Foot) { field(f).B = n }, func(f *api.Foot) { field(f).C = n }, func(f *api.Foot) { field(f).Sec = n })
		}
	}
	return append(l, func(f *api.Foot) { f.From = weeks(3, 2, 0, 7200) }, func(f *api.Foot) { f.To = julian(1, 0) })
}

var (
	anyName = regexp.MustCompile(`\A[A-Za-z0-9+-]{3,16}\z`)
	letters = regexp.MustCompile(`\A[A-Za-z]*\z`)
)

// slowRule is another way to tell whether a rule is right.
func slowRule(r api.Rule) bool {
	least, has := map[int][3]int{0: {1, 1, 0}, 1: {1, 0, 0}, 2: {0, 0, 0}}[r.Kind]
	most := map[int][3]int{0: {12, 5, 6}, 1: {365, 0, 0}, 2: {365, 0, 0}}[r.Kind]
	for k, n := range []int{r.A, r.B, r.C} {
		has = has && least[k] <= n && n <= most[k]
	}
	return has && -604800 < r.Sec && r.Sec < 604800
}

// slowRight is another way to tell whether a foot is right.
func slowRight(f api.Foot) bool {
	types := map[bool]api.Type{false: f.Std}
	if f.Has {
		types[true] = f.Dst
	}
	for dst, t := range types {
		if t.Off < -89999 || 89999 < t.Off || t.Dst != dst || !anyName.MatchString(t.Abbr) {
			return false
		}
	}
	if f.Has {
		return slowRule(f.From) && slowRule(f.To)
	}
	return f.Dst == api.Type{} && f.From == api.Rule{} && f.To == api.Rule{}
}

// slowClock is another way to the clock of a second: all of it, less what is 0 at its end.
func slowClock(sec int) string {
	sign := ""
	if sec < 0 {
		sign, sec = "-", -sec
	}
	s := fmt.Sprintf("%s%d:%02d:%02d", sign, sec/3600, sec/60%60, sec%60)
	return strings.TrimSuffix(strings.TrimSuffix(s, ":00"), ":00")
}

// slowText is another way to the text of a foot that is right.
func slowText(f api.Foot) string {
	name := func(s string) string {
		if letters.MatchString(s) {
			return s
		}
		return "<" + s + ">"
	}
	date := func(r api.Rule) string {
		s := [3]string{fmt.Sprintf("M%d.%d.%d", r.A, r.B, r.C), fmt.Sprintf("J%d", r.A), fmt.Sprint(r.A)}[r.Kind]
		if r.Sec != 7200 {
			s += "/" + slowClock(r.Sec)
		}
		return s
	}
	s := name(f.Std.Abbr) + slowClock(-f.Std.Off)
	if !f.Has {
		return s
	}
	s += name(f.Dst.Abbr)
	if f.Dst.Off-f.Std.Off != 3600 {
		s += slowClock(-f.Dst.Off)
	}
	return s + "," + date(f.From) + "," + date(f.To)
}

// Patterns of the parts of feet, and of all of one. What is behind a part is never of it, so that it does not matter how much of it is read first.
const (
	nameForm = `([A-Za-z]{3,16}|<[A-Za-z0-9+-]{3,16}>)`
	timeForm = `([+-]?(?:[0-9]{1,2}|0[0-9][0-9]|1[0-5][0-9]|16[0-7])(?::[0-5][0-9](?::[0-5][0-9])?)?)`
	ruleForm = `(M[0-9]{1,2}\.[0-9]\.[0-9]|J?[0-9]{1,3})(?:/` + timeForm + `)?`
)

var whole = regexp.MustCompile(`\A` + nameForm + timeForm + `(?:` + nameForm + timeForm + `?,` + ruleForm + `,` + ruleForm + `)?\z`)

// slowTime tells the seconds of a text that is a time.
func slowTime(s string) int {
	sign := 1
	if strings.HasPrefix(s, "-") {
		sign = -1
	}
	parts := append(strings.Split(strings.Trim(s, "+-"), ":"), "0", "0")
	n := 0
	for _, part := range parts[:3] {
		x, _ := strconv.Atoi(part)
		n = 60*n + x
	}
	return sign * n
}

// slowDate tells the rule, right or not, of the text of its day, and of its time.
func slowDate(s, at string) api.Rule {
	sec := 7200
	if at != "" {
		sec = slowTime(at)
	}
	var n [3]int
	for k, part := range strings.Split(strings.Trim(s, "MJ"), ".") {
		n[k], _ = strconv.Atoi(part)
	}
	kind := map[byte]int{'M': 0, 'J': 1}
	if k, has := kind[s[0]]; has {
		return api.Rule{Kind: k, A: n[0], B: n[1], C: n[2], Sec: sec}
	}
	return days(n[0], sec)
}

// slowParse is another way to the foot that a text is.
func slowParse(s string) (api.Foot, bool) {
	m := whole.FindStringSubmatch(s)
	if m == nil {
		return api.Foot{}, false
	}
	f := plain(strings.Trim(m[1], "<>"), -slowTime(m[2]))
	if m[3] != "" {
		far := f.Std.Off + 3600
		if m[4] != "" {
			far = -slowTime(m[4])
		}
		f = summer(f.Std.Abbr, f.Std.Off, strings.Trim(m[3], "<>"), far, slowDate(m[5], m[6]), slowDate(m[7], m[8]))
	}
	if !slowRight(f) {
		return api.Foot{}, false
	}
	return f, true
}

// slowAt tells the second of a right rule in a year that there is, by the library's calendar.
func slowAt(r api.Rule, y int) int {
	first := func(m int) time.Time { return time.Date(y, time.Month(m), 1, 0, 0, 0, 0, time.UTC) }
	t := first(1)
	switch r.Kind {
	case api.RuleDay:
		t = t.AddDate(0, 0, r.A)
	case api.RuleJulian:
		// 2023 does not leap: its days have the dates that are counted.
		_, m, d := time.Date(2023, 1, r.A, 0, 0, 0, 0, time.UTC).Date()
		t = time.Date(y, m, d, 0, 0, 0, 0, time.UTC)
	default:
		for t = first(r.A); int(t.Weekday()) != r.C; {
			t = t.AddDate(0, 0, 1)
		}
		for b := 1; b < r.B && t.AddDate(0, 0, 7).Month() == t.Month(); b++ {
			t = t.AddDate(0, 0, 7)
		}
	}
	return int(t.Unix()) + r.Sec
}

// slowLookup is another way to the local time of a right foot, by great numbers and the library's calendar.
func slowLookup(f api.Foot, p int) api.Type {
	local := new(big.Int).Add(big.NewInt(int64(p)), big.NewInt(int64(f.Std.Off)))
	if !f.Has || local.Cmp(big.NewInt(-62135596800)) < 0 || local.Cmp(big.NewInt(253402300799)) > 0 {
		return f.Std
	}
	y := time.Unix(local.Int64(), 0).UTC().Year()
	from, to := slowAt(f.From, y)-f.Std.Off, slowAt(f.To, y)-f.Dst.Off
	for _, is := range []bool{from < to && from <= p && p < to, from >= to && from <= p, from >= to && p < to} {
		if is {
			return f.Dst
		}
	}
	return f.Std
}

func checkRight(t *testing.T, f api.Foot, want bool) {
	t.Helper()
	if got := Right(f); got != want {
		t.Errorf("Right(%.300s): %t; want %t", fmt.Sprintf("%+v", f), got, want)
	}
}

func checkText(t *testing.T, f api.Foot, want string, ok bool) {
	t.Helper()
	if s, is := Text(f); s != want || is != ok {
		t.Errorf("Text(%.300s): %q, %t; want %q, %t", fmt.Sprintf("%+v", f), s, is, want, ok)
	}
}

func checkParse(t *testing.T, s string, want api.Foot, ok bool) {
	t.Helper()
	if f, is := Parse(s); f != want || is != ok {
		t.Errorf("Parse(%.100q): %+v, %t; want %+v, %t", s, f, is, want, ok)
	}
}

// checkNone asks that a text is no foot.
func checkNone(t *testing.T, s string) {
	t.Helper()
	checkParse(t, s, api.Foot{}, false)
}

func checkSpan(t *testing.T, f api.Foot, y, from, to int, ok bool) {
	t.Helper()
	if a, b, is := Span(f, y); a != from || b != to || is != ok {
		t.Errorf("Span(%.300s, %d): %d, %d, %t; want %d, %d, %t", fmt.Sprintf("%+v", f), y, a, b, is, from, to, ok)
	}
}

func checkLookup(t *testing.T, f api.Foot, p int, want api.Type) {
	t.Helper()
	if k := Lookup(f, p); k != want {
		t.Errorf("Lookup(%+v, %d): %+v; want %+v", f, p, k, want)
	}
}

// checkBoth asks the text of a foot that is right, and the foot of that text.
func checkBoth(t *testing.T, f api.Foot, s string) {
	t.Helper()
	checkRight(t, f, true)
	checkText(t, f, s, true)
	checkParse(t, s, f, true)
}

// checkWrong asks all of a foot that is not right.
func checkWrong(t *testing.T, f api.Foot) {
	t.Helper()
	checkRight(t, f, false)
	checkText(t, f, "", false)
	for _, y := range []int{1, 2023, 2024, 9999, 0, 10000} {
		checkSpan(t, f, y, 0, 0, false)
	}
}

// second tells the POSIX second of a date and a clock.
func second(y, m, d, hour, min, sec int) int {
	return int(time.Date(y, time.Month(m), d, hour, min, sec, 0, time.UTC).Unix())
}

// P18.1 to P18.4: the chapter's example.
func TestExample(t *testing.T) {
	f := york()
	checkBoth(t, f, "EST5EDT,M3.2.0,M11.1.0")
	checkSpan(t, f, 2024, second(2024, 3, 10, 7, 0, 0), second(2024, 11, 3, 6, 0, 0), true)
	for m, far := range []int{-18000, -18000, -14400, -14400, -14400, -14400, -14400, -14400, -14400, -14400, -18000, -18000} {
		if k := Lookup(f, second(2024, m+1, 15, 12, 0, 0)); k.Off != far || k.Dst != (far == -14400) {
			t.Errorf("month %d: %+v; want %d", m+1, k, far)
		}
	}
}

// P18.1: names of any length and kind, in both places.
func TestRightOfNames(t *testing.T) {
	names := append(rightNames(), wrongNames()...)
	for n := range 300 {
		names = append(names, strings.Repeat("a", n), strings.Repeat("+", n), strings.Repeat("9", n))
	}
	for _, name := range names {
		want := anyName.MatchString(name)
		checkRight(t, plain(name, 0), want)
		checkRight(t, changed(york(), func(f *api.Foot) { f.Std.Abbr = name }), want)
		checkRight(t, changed(york(), func(f *api.Foot) { f.Dst.Abbr = name }), want)
	}
}

// P18.1: how far local times are ahead of UTC, at the edges and one beyond, of both.
func TestRightOfOffs(t *testing.T) {
	for _, off := range rightOffs() {
		checkRight(t, plain("EST", off), true)
		for _, far := range rightOffs() {
			checkRight(t, summer("EST", off, "EDT", far, julian(1, 0), days(300, 0)), true)
		}
		for _, far := range wrongOffs() {
			checkRight(t, summer("EST", off, "EDT", far, julian(1, 0), days(300, 0)), false)
			checkRight(t, summer("EST", far, "EDT", off, julian(1, 0), days(300, 0)), false)
		}
	}
	for _, off := range wrongOffs() {
		checkRight(t, plain("EST", off), false)
	}
	for off := 89000; off < 91000; off++ {
		checkRight(t, plain("EST", off), off < 90000)
		checkRight(t, plain("EST", -off), off < 90000)
		checkRight(t, changed(york(), func(f *api.Foot) { f.Dst.Off = off }), off < 90000)
		checkRight(t, changed(york(), func(f *api.Foot) { f.Dst.Off = -off }), off < 90000)
	}
}

// P18.1: rules that are right and that are not, in both places.
func TestRightOfRules(t *testing.T) {
	for _, from := range rightRules() {
		for _, to := range rightRules() {
			checkRight(t, summer("EST", 0, "EDT", 1, from, to), true)
		}
		for _, to := range wrongRules() {
			checkRight(t, summer("EST", 0, "EDT", 1, from, to), false)
			checkRight(t, summer("EST", 0, "EDT", 1, to, from), false)
		}
	}
}

// P18.1: marks of the summer, with and without Has.
func TestRightOfMarks(t *testing.T) {
	for _, std := range []bool{false, true} {
		for _, dst := range []bool{false, true} {
			f := york()
			f.Std.Dst, f.Dst.Dst = std, dst
			checkRight(t, f, !std && dst)
			f.Has = false
			checkRight(t, f, false)
			f = plain("EST", 0)
			f.Std.Dst, f.Dst.Dst = std, dst
			checkRight(t, f, !std && !dst)
			f.Has = true
			checkRight(t, f, false)
		}
	}
}

// P18.1: without Has, nothing of the summer may stand there, not in one field.
func TestNothingWithoutHas(t *testing.T) {
	f := plain("EST", -18000)
	checkRight(t, f, true)
	for k, change := range lones() {
		one := changed(f, change)
		if one == f {
			t.Errorf("change %d alters nothing", k)
		}
		checkWrong(t, one)
	}
}

// P18.1, P18.3: of feet that are not right there is neither a text nor a span.
func TestWrongFeet(t *testing.T) {
	for _, f := range wrongFeet() {
		if slowRight(f) {
			t.Fatalf("%+v is right", f)
		}
		checkWrong(t, f)
	}
}

// P18.1, P18.2: feet and their texts, written out.
func TestTextsByHand(t *testing.T) {
	for s, f := range map[string]api.Foot{
		"UTC0": plain("UTC", 0), "EST5": plain("EST", -18000), "CET-1": plain("CET", 3600), "est5": plain("est", -18000), "ABCDEFGHIJKLMNOP0": plain("ABCDEFGHIJKLMNOP", 0), "abz0:00:01": plain("abz", -1), "AZa-0:00:01": plain("AZa", 1),
		"<+0530>-5:30": plain("+0530", 19800), "<-0330>3:30": plain("-0330", -12600), "<E4T>0": plain("E4T", 0), "<000>0": plain("000", 0), "<+00>0": plain("+00", 0), "<AB->0": plain("AB-", 0), "<0123456789012345>0": plain("0123456789012345", 0), "<+++>0": plain("+++", 0), "<--->-0:01": plain("---", 60),
		"LMT-0:01:15": plain("LMT", 75), "LMT4:56:02": plain("LMT", -17762), "LMT0:59:59": plain("LMT", -3599), "LMT0:10": plain("LMT", -600), "LMT10": plain("LMT", -36000), "LMT24": plain("LMT", -86400), "LMT-24": plain("LMT", 86400), "LMT24:59:59": plain("LMT", -89999), "LMT-24:59:59": plain("LMT", 89999), "LMT24:59": plain("LMT", -89940),
		"EST5EDT,M3.2.0,M11.1.0":                   york(),
		"EST5EDT5,M3.2.0,M11.1.0":                  changed(york(), func(f *api.Foot) { f.Dst.Off = -18000 }),
		"EST5EDT6,M3.2.0,M11.1.0":                  changed(york(), func(f *api.Foot) { f.Dst.Off = -21600 }),
		"EST5EDT0,M3.2.0,M11.1.0":                  changed(york(), func(f *api.Foot) { f.Dst.Off = 0 }),
		"EST5EDT-4,M3.2.0,M11.1.0":                 changed(york(), func(f *api.Foot) { f.Dst.Off = 14400 }),
		"EST5EDT4:00:01,M3.2.0,M11.1.0":            changed(york(), func(f *api.Foot) { f.Dst.Off = -14401 }),
		"EST5EDT3:59:59,M3.2.0,M11.1.0":            changed(york(), func(f *api.Foot) { f.Dst.Off = -14399 }),
		"EST5<EDT4>,M3.2.0,M11.1.0":                changed(york(), func(f *api.Foot) { f.Dst.Abbr = "EDT4" }),
		"<-05>5<-04>,M3.2.0,M11.1.0":               changed(york(), func(f *api.Foot) { f.Std.Abbr, f.Dst.Abbr = "-05", "-04" }),
		"<-05>5EDT,M3.2.0,M11.1.0":                 changed(york(), func(f *api.Foot) { f.Std.Abbr = "-05" }),
		"<-05>5<-04>4:30,M3.2.0,M11.1.0":           changed(york(), func(f *api.Foot) { f.Std.Abbr, f.Dst.Abbr, f.Dst.Off = "-05", "-04", -16200 }),
		"EST5EDT24:59:59,M3.2.0,M11.1.0":           changed(york(), func(f *api.Foot) { f.Dst.Off = -89999 }),
		"EST5EDT-24:59:59,M3.2.0,M11.1.0":          changed(york(), func(f *api.Foot) { f.Dst.Off = 89999 }),
		"EST-24EDT-24:59:59,M3.2.0,M11.1.0":        changed(york(), func(f *api.Foot) { f.Std.Off, f.Dst.Off = 86400, 89999 }),
		"EST-23:59:59EDT,M3.2.0,M11.1.0":           changed(york(), func(f *api.Foot) { f.Std.Off, f.Dst.Off = 86399, 89999 }),
		"EST-24:59:59EDT-24:59:59,M3.2.0,M11.1.0":  changed(york(), func(f *api.Foot) { f.Std.Off, f.Dst.Off = 89999, 89999 }),
		"EST-24:59:59EDT24:59:59,M3.2.0,M11.1.0":   changed(york(), func(f *api.Foot) { f.Std.Off, f.Dst.Off = 89999, -89999 }),
		"EST24:59:59EDT,M3.2.0,M11.1.0":            changed(york(), func(f *api.Foot) { f.Std.Off, f.Dst.Off = -89999, -86399 }),
		"EST1EDT,M3.2.0,M11.1.0":                   changed(york(), func(f *api.Foot) { f.Std.Off, f.Dst.Off = -3600, 0 }),
		"EST0EDT,M3.2.0,M11.1.0":                   changed(york(), func(f *api.Foot) { f.Std.Off, f.Dst.Off = 0, 3600 }),
		"CET-1CEST,M3.5.0,M10.5.0/3":               summer("CET", 3600, "CEST", 7200, weeks(3, 5, 0, 7200), weeks(10, 5, 0, 10800)),
		"IST-1GMT0,M10.5.0,M3.5.0/1":               summer("IST", 3600, "GMT", 0, weeks(10, 5, 0, 7200), weeks(3, 5, 0, 3600)),
		"<-02>2<-01>,M3.5.0/-1,M10.5.0/0":          summer("-02", -7200, "-01", -3600, weeks(3, 5, 0, -3600), weeks(10, 5, 0, 0)),
		"EET-2EEST,M3.4.4/50,M10.4.4/50":           summer("EET", 7200, "EEST", 10800, weeks(3, 4, 4, 180000), weeks(10, 4, 4, 180000)),
		"XXX3EDT4,0/0,J365/23":                     summer("XXX", -10800, "EDT", -14400, days(0, 0), julian(365, 82800)),
		"EST5EDT,0/0,J365/25":                      summer("EST", -18000, "EDT", -14400, days(0, 0), julian(365, 90000)),
		"EST5EDT,J60,365":                          summer("EST", -18000, "EDT", -14400, julian(60, 7200), days(365, 7200)),
		"EST5EDT,J1/-167:59:59,365/167:59:59":      summer("EST", -18000, "EDT", -14400, julian(1, -604799), days(365, 604799)),
		"EST5EDT,M1.1.0/0:00:01,M12.5.6/-0:00:01":  summer("EST", -18000, "EDT", -14400, weeks(1, 1, 0, 1), weeks(12, 5, 6, -1)),
		"EST5EDT,M3.2.0/2:00:01,M11.1.0/1:59:59":   summer("EST", -18000, "EDT", -14400, weeks(3, 2, 0, 7201), weeks(11, 1, 0, 7199)),
		"EST5EDT,59,59":                            summer("EST", -18000, "EDT", -14400, days(59, 7200), days(59, 7200)),
		"ABCDEFGHIJKLMNOP5<ABCDEFGHIJKLMNO->,1,J2": summer("ABCDEFGHIJKLMNOP", -18000, "ABCDEFGHIJKLMNO-", -14400, days(1, 7200), julian(2, 7200)),
	} {
		checkBoth(t, f, s)
	}
}

// P18.2: texts that are written otherwise, and mean the same.
func TestOtherTexts(t *testing.T) {
	for _, s := range []string{
		"EST5EDT,M3.2.0,M11.1.0", "EST+5EDT,M3.2.0,M11.1.0", "EST05EDT,M3.2.0,M11.1.0", "EST005EDT,M3.2.0,M11.1.0", "EST5:00EDT,M3.2.0,M11.1.0", "EST+05:00:00EDT,M3.2.0,M11.1.0", "<EST>5EDT,M3.2.0,M11.1.0", "EST5<EDT>,M3.2.0,M11.1.0", "<EST>5<EDT>,M3.2.0,M11.1.0",
		"EST5EDT4,M3.2.0,M11.1.0", "EST5EDT+4,M3.2.0,M11.1.0", "EST5EDT04,M3.2.0,M11.1.0", "EST5EDT+004:00:00,M3.2.0,M11.1.0", "<EST>+5<EDT>+4:00,M3.2.0,M11.1.0",
		"EST5EDT,M03.2.0,M11.1.0", "EST5EDT,M3.2.0/2,M11.1.0", "EST5EDT,M3.2.0,M11.1.0/2", "EST5EDT,M3.2.0/+2,M11.1.0/02:00", "EST5EDT,M03.2.0/2:00:00,M11.1.0/+002:00:00",
	} {
		checkParse(t, s, york(), true)
	}
	for s, f := range map[string]api.Foot{
		"UTC+0": plain("UTC", 0), "UTC-0": plain("UTC", 0), "UTC-00:00:00": plain("UTC", 0), "<UTC>000": plain("UTC", 0), "EST-05": plain("EST", 18000), "LMT-000:00:09": plain("LMT", 9), "LMT024:59:59": plain("LMT", -89999), "LMT-024:59:59": plain("LMT", 89999), "<abc>+1:30": plain("abc", -5400), "<ABCDEFGHIJKLMNOP>1": plain("ABCDEFGHIJKLMNOP", -3600),
		"EST5EDT-0,00,J001":             summer("EST", -18000, "EDT", 0, days(0, 7200), julian(1, 7200)),
		"EST5EDT4:00:00,J060/0,000/-0":  summer("EST", -18000, "EDT", -14400, julian(60, 0), days(0, 0)),
		"EST-0EDT,J1/+0:00:00,365/0:00": summer("EST", 0, "EDT", 3600, julian(1, 0), days(365, 0)),
	} {
		checkParse(t, s, f, true)
	}
}

// noFeet are texts that are no feet, each of them by one thing.
func noFeet() []string {
	l := []string{
		// Names that are wanting, too short, too long, or of other bytes.
		"", "5", "-5", "+5", "E5", "ES5", "ABCDEFGHIJKLMNOPQ5", "<>5", "<E>5", "<ES>5", "<-5>5", "<ABCDEFGHIJKLMNOPQ>5", "<01234567890123456>5", "<EST5", "<EST", "<", ">", "<5", ">5", "EST>5", "<EST<>5", "<<EST>5", "<<EST>>5", "<EST>>5", "< EST>5", "<EST >5", "<E_T>5", "<E,T>5", "<E.T>5", "<E:T>5", "<E\x00T>5", "<E\nT>5", "<E\u00c9T>5", "<\u0663\u0664\u0665>5", "E\u00c9ST5", "\u0395\u03a3\u03a45", "E\xffST5", "\xff\xff\xff5", "E4T5", "E T5", " EST5", "\tEST5", "E-T5", "_EST5", "@@@5", "[[[5", "```5", "{{{5",
		// Times of the usual time that are wanting, or too great.
		"EST", "<EST>", "<-05>", "EST+", "EST-", "EST+-5", "EST--5", "EST++5", "EST:5", "EST:", "EST 5", "EST,5", "EST\u0665", "EST25", "EST-25", "EST+25", "EST025", "EST25:00", "EST24:60", "EST26", "EST99", "EST100", "EST167", "EST-167", "EST168", "EST-168", "EST999", "EST0005", "EST1000", "EST167:59:59", "EST-167:59:59", "EST5:", "EST5:0", "EST5:60", "EST5:000", "EST5:00:", "EST5:00:0", "EST5:00:60", "EST5:00:000", "EST5:00:00:00", "EST5.5", "EST5,", "EST5h",
		// What is behind it, where there is no summer.
		"EST5 ", "EST5\n", "EST5\r", "EST5\t", "EST5\x00", "EST5>", "EST5<", "EST5<>", "EST5\xff", "EST5\u00a0", "EST5,M3.2.0,M11.1.0", "EST5,,", "EST5,M3.2.0", "EST5M3.2.0,M11.1.0", "EST5-5", "EST5+5", "EST5/5", "\nEST5", "EST5EST", "EST5EST5",
		// The second name.
		"EST5-4,M3.2.0,M11.1.0", "EST5+4,M3.2.0,M11.1.0", "EST5<4,M3.2.0,M11.1.0", "EST5<>4,M3.2.0,M11.1.0", "EST5:4,M3.2.0,M11.1.0", "EST25,M3.2.0,M11.1.0", "EST5 4,M3.2.0,M11.1.0", "EST5E", "EST5ED", "EST5EDT", "EST5<EDT>", "EST5EDT4", "EST5<EDT>4", "EST5E,M3.2.0,M11.1.0", "EST5ED,M3.2.0,M11.1.0", "EST5<ED>,M3.2.0,M11.1.0", "EST5<>,M3.2.0,M11.1.0", "EST5<EDT,M3.2.0,M11.1.0", "EST5EDT>,M3.2.0,M11.1.0", "EST5<<EDT>,M3.2.0,M11.1.0", "EST5<EDT>>,M3.2.0,M11.1.0", "EST5<E_T>,M3.2.0,M11.1.0", "EST5ABCDEFGHIJKLMNOPQ,M3.2.0,M11.1.0", "EST5<ABCDEFGHIJKLMNOPQ>,M3.2.0,M11.1.0", "EST5\u0395\u03a3\u03a4,M3.2.0,M11.1.0", "EST5 EDT,M3.2.0,M11.1.0", "EST5E\xffT,M3.2.0,M11.1.0", "EST5,EDT,M3.2.0,M11.1.0",
		// The time behind the second name.
		"EST5EDT25,M3.2.0,M11.1.0", "EST5EDT-25,M3.2.0,M11.1.0", "EST5EDT25:00,M3.2.0,M11.1.0", "EST5EDT167,M3.2.0,M11.1.0", "EST5EDT-167:59:59,M3.2.0,M11.1.0", "EST5EDT168,M3.2.0,M11.1.0", "EST5EDT4:,M3.2.0,M11.1.0", "EST5EDT4:6,M3.2.0,M11.1.0", "EST5EDT4:60,M3.2.0,M11.1.0", "EST5EDT4:00:60,M3.2.0,M11.1.0", "EST5EDT4:00:00:00,M3.2.0,M11.1.0", "EST5EDT+,M3.2.0,M11.1.0", "EST5EDT-,M3.2.0,M11.1.0", "EST5EDT:,M3.2.0,M11.1.0", "EST5EDT 4,M3.2.0,M11.1.0", "EST5EDT4 ,M3.2.0,M11.1.0", "EST5EDT0004,M3.2.0,M11.1.0", "EST5EDT/4,M3.2.0,M11.1.0",
		// No time there, and Off would be too great.
		"EST-24EDT,M3.2.0,M11.1.0", "EST-24:00EDT,M3.2.0,M11.1.0", "EST-24:00:00EDT,M3.2.0,M11.1.0", "EST-24:00:01EDT,M3.2.0,M11.1.0", "EST-24:59:59EDT,M3.2.0,M11.1.0", "EST-25EDT,M3.2.0,M11.1.0", "EST25EDT,M3.2.0,M11.1.0", "EST25EDT4,M3.2.0,M11.1.0", "EST-25EDT4,M3.2.0,M11.1.0",
		// Commas.
		"EST5EDT,", "EST5EDT,,", "EST5EDT,,,", "EST5EDT4,", "EST5EDTM3.2.0,M11.1.0", "EST5EDT4M3.2.0,M11.1.0", "EST5EDT,M3.2.0", "EST5EDT,M3.2.0,", "EST5EDT,,M3.2.0,M11.1.0", "EST5EDT,M3.2.0,,M11.1.0", "EST5EDT,M3.2.0M11.1.0", "EST5EDT,M3.2.0,M11.1.0,", "EST5EDT,,M11.1.0", "EST5EDT;M3.2.0,M11.1.0", "EST5EDT,M3.2.0;M11.1.0", "EST5EDT/M3.2.0/M11.1.0", "EST5EDT.M3.2.0,M11.1.0", "EST5EDT, M3.2.0,M11.1.0", "EST5EDT ,M3.2.0,M11.1.0", "EST5EDT,M3.2.0, M11.1.0", "EST5EDT,M3.2.0 ,M11.1.0", "EST5EDT,M3.2.0,M11.1.0,M11.1.0",
		// Rules that are none.
		"EST5EDT,M0.2.0,M11.1.0", "EST5EDT,M13.2.0,M11.1.0", "EST5EDT,M3.0.0,M11.1.0", "EST5EDT,M3.6.0,M11.1.0", "EST5EDT,M3.2.7,M11.1.0", "EST5EDT,M3.2,M11.1.0", "EST5EDT,M3,M11.1.0", "EST5EDT,M,M11.1.0", "EST5EDT,J0,M11.1.0", "EST5EDT,J366,M11.1.0", "EST5EDT,J,M11.1.0", "EST5EDT,366,M11.1.0", "EST5EDT,-1,M11.1.0", "EST5EDT,1000,M11.1.0", "EST5EDT,m3.2.0,M11.1.0", "EST5EDT,j1,M11.1.0", "EST5EDT,x,M11.1.0",
		"EST5EDT,M3.2.0,M0.1.0", "EST5EDT,M3.2.0,M13.1.0", "EST5EDT,M3.2.0,M11.0.0", "EST5EDT,M3.2.0,M11.6.0", "EST5EDT,M3.2.0,M11.1.7", "EST5EDT,M3.2.0,M11.1", "EST5EDT,M3.2.0,M11.1.", "EST5EDT,M3.2.0,M11.1.00", "EST5EDT,M3.2.0,J0", "EST5EDT,M3.2.0,J366", "EST5EDT,M3.2.0,J", "EST5EDT,M3.2.0,366", "EST5EDT,M3.2.0,0000", "EST5EDT,M3.2.0,x", "EST5EDT,M3.2.0,\u0665",
		"EST5EDT,M3.2.0/,M11.1.0", "EST5EDT,M3.2.0/x,M11.1.0", "EST5EDT,M3.2.0/168,M11.1.0", "EST5EDT,M3.2.0/2:60,M11.1.0", "EST5EDT,M3.2.0//2,M11.1.0", "EST5EDT,M3.2.0/2/2,M11.1.0", "EST5EDT,M3.2.0:2,M11.1.0", "EST5EDT,M3.2.0,M11.1.0/", "EST5EDT,M3.2.0,M11.1.0/-", "EST5EDT,M3.2.0,M11.1.0/168", "EST5EDT,M3.2.0,M11.1.0/-168", "EST5EDT,M3.2.0,M11.1.0/2:60", "EST5EDT,M3.2.0,M11.1.0/2:00:60", "EST5EDT,M3.2.0,M11.1.0/2:", "EST5EDT,M3.2.0,M11.1.0//2", "EST5EDT,M3.2.0,365/168",
		// Something behind the last rule, or ahead of all.
		"EST5EDT,M3.2.0,M11.1.0 ", "EST5EDT,M3.2.0,M11.1.0\n", "EST5EDT,M3.2.0,M11.1.0\r\n", "EST5EDT,M3.2.0,M11.1.0\x00", "EST5EDT,M3.2.0,M11.1.0x", "EST5EDT,M3.2.0,M11.1.05", "EST5EDT,M3.2.0,M11.1.0/2 ", "EST5EDT,M3.2.0,M11.1.0/2x", "EST5EDT,M3.2.0,M11.1.0/2\n", "EST5EDT,M3.2.0,M11.1.0\u00e9", "EST5EDT,M3.2.0,M11.1.0\xff", "EST5EDT,M3.2.0,M11.1.0EST5", "EST5EDT,J60,J3000", "EST5EDT,J60,J300/2:00:00:00",
		"\nEST5EDT,M3.2.0,M11.1.0", " EST5EDT,M3.2.0,M11.1.0", ":EST5EDT,M3.2.0,M11.1.0", "\ufeffEST5EDT,M3.2.0,M11.1.0", "EST5\nEDT,M3.2.0,M11.1.0", "EST5EDT\n,M3.2.0,M11.1.0", "EST5EDT,M3.2.0\n,M11.1.0", "\u0395ST5EDT,M3.2.0,M11.1.0", "EST\uff15EDT,M3.2.0,M11.1.0", "EST5EDT\u060cM3.2.0,M11.1.0",
		" ", "\n", "\x00", "x", ",", "\u00e9", "\xff", "M3.2.0", "M3.2.0,M11.1.0", ",M3.2.0,M11.1.0",
	}
	return l
}

// P18.2: texts that are no feet; what comes with false is a zero foot.
func TestNoFeet(t *testing.T) {
	for _, s := range noFeet() {
		if f, ok := slowParse(s); ok {
			t.Fatalf("%q is a foot: %+v", s, f)
		}
		checkNone(t, s)
	}
}

// P18.2: feet whose texts are cut, at each place, and have a byte more, each at each place.
func TestEachByte(t *testing.T) {
	rights := 0
	for _, s := range []string{"UTC0", "<-03>3", "EST5EDT,M3.2.0,M11.1.0", "<-02>2<-01>1:30,M3.5.0/-1,365/0:00:09", "LMT-24:59:59ABCDEFGHIJKLMNOP24:59,J60/2:30,0"} {
		if _, ok := slowParse(s); !ok {
			t.Fatalf("%q is no foot", s)
		}
		for k := range len(s) + 1 {
			for c := range 256 {
				one := string([]byte{byte(c)})
				for _, u := range []string{s[:k] + one + s[min(k+1, len(s)):], s[:k] + one + s[k:]} {
					f, ok := slowParse(u)
					checkParse(t, u, f, ok)
					if ok {
						rights++
					}
				}
			}
			for _, u := range []string{s[:k], s[k:], s[:k] + s[min(k+1, len(s)):], s + s[k:], s[:k] + s} {
				f, ok := slowParse(u)
				checkParse(t, u, f, ok)
			}
		}
	}
	if rights < 1000 {
		t.Errorf("only %d of the texts are feet", rights)
	}
}

// P18.2: all short texts of bytes that feet may have, and of some others.
func TestShortTexts(t *testing.T) {
	rights := 0
	var all func(s string, left int)
	all = func(s string, left int) {
		f, ok := slowParse(s)
		checkParse(t, s, f, ok)
		if ok {
			rights++
		}
		if left == 0 {
			return
		}
		for _, c := range []string{"A", "z", "0", "2", "9", "+", "-", ":", "<", ">", ",", "M", " "} {
			all(s+c, left-1)
		}
	}
	all("", 5)
	// Three letters of three, and one of three digits, two of them, but for 29, 90, 92 and 99, or a sign and one; four letters, and a digit.
	if want := 27*3 + 27*(9-4+2*3) + 81*3; rights != want {
		t.Errorf("%d of the texts are feet; want %d", rights, want)
	}
}

// P18.2: any texts, most of them nearly feet, against the slow way.
func TestAnyTexts(t *testing.T) {
	r := rand.New(rand.NewSource(18))
	parts := []string{"EST", "A", "zzz", "<", ">", "<-03>", "<+0530>", "M3.2.0", "M", "J", "J60", "0", "5", "9", "24", "25", "59", "167", "365", ".", "/", "/2", ":", ":30", "-", "+", ",", ",", " ", "\n", "\u0663", "\xff"}
	feet := rightFeet()
	rights := 0
	for range 200000 {
		s := ""
		if r.Intn(4) != 0 {
			s = slowText(feet[r.Intn(len(feet))])
		}
		for range r.Intn(7) {
			k := r.Intn(len(s) + 1)
			s = s[:k] + parts[r.Intn(len(parts))] + s[min(len(s), k+r.Intn(3)):]
		}
		f, ok := slowParse(s)
		checkParse(t, s, f, ok)
		if ok {
			rights++
		}
	}
	// Both must be often enough to say something.
	if rights < 20000 || rights > 180000 {
		t.Errorf("of 200000 texts %d are feet", rights)
	}
}

// P18.2: where no time stands behind the second name, it is an hour ahead, as long as that is right.
func TestHourAhead(t *testing.T) {
	for _, off := range rightOffs() {
		text := "EST" + slowClock(-off) + "EDT,J60,J300"
		if off+3600 > 89999 {
			checkNone(t, text)
			continue
		}
		checkParse(t, text, summer("EST", off, "EDT", off+3600, julian(60, 7200), julian(300, 7200)), true)
	}
	for off := 86000; off < 87000; off++ {
		text := "EST" + slowClock(-off) + "EDT,J60,J300"
		if off+3600 > 89999 {
			checkNone(t, text)
		} else {
			checkParse(t, text, summer("EST", off, "EDT", off+3600, julian(60, 7200), julian(300, 7200)), true)
		}
	}
}

// P18.6: each time that feet may have, written and read again, of both local times; an hour ahead is not told.
func TestEachOff(t *testing.T) {
	for off := -89999; off <= 89999; off++ {
		one := plain("+00", off)
		s, ok := Text(one)
		if f, is := Parse(s); f != one || !ok || !is {
			t.Fatalf("%+v becomes %q, %t, and that %+v, %t", one, s, ok, f, is)
		}
		one = summer("EST", 1000, "EDT", off, julian(60, 7200), julian(300, 7200))
		s, ok = Text(one)
		if f, is := Parse(s); f != one || !ok || !is || (s == "EST-0:16:40EDT,J60,J300") != (off == 4600) {
			t.Fatalf("%+v becomes %q, %t, and that %+v, %t", one, s, ok, f, is)
		}
	}
}

// P18.1, P18.6: feet that are right, their texts, and what those are.
func TestRoundTrip(t *testing.T) {
	for _, f := range rightFeet() {
		checkBoth(t, f, slowText(f))
	}
	r := rand.New(rand.NewSource(81))
	for range 100000 {
		f := anyFoot(r)
		checkBoth(t, f, slowText(f))
	}
}

// someName tells a name that is right, often of letters alone.
func someName(r *rand.Rand) string {
	const bytes = "ABCDEFGHIJKLMNOPQRSTUVWXYZabcdefghijklmnopqrstuvwxyz0123456789+-"
	few := []int{52, len(bytes)}[r.Intn(2)]
	b := make([]byte, 3+r.Intn(14))
	for k := range b {
		b[k] = bytes[r.Intn(few)]
	}
	return string(b)
}

// anyRule tells a rule that is right.
func anyRule(r *rand.Rand) api.Rule {
	sec := []int{7200, 0, r.Intn(2*604799+1) - 604799, 3600 * (r.Intn(335) - 167)}[r.Intn(4)]
	return []api.Rule{weeks(1+r.Intn(12), 1+r.Intn(5), r.Intn(7), sec), julian(1+r.Intn(365), sec), days(r.Intn(366), sec)}[r.Intn(3)]
}

// anyFoot tells a foot that is right.
func anyFoot(r *rand.Rand) api.Foot {
	off := r.Intn(2*89999+1) - 89999
	if r.Intn(2) == 0 {
		off = 1800 * (r.Intn(97) - 48)
	}
	if r.Intn(5) == 0 {
		return plain(someName(r), off)
	}
	far := []int{off + 3600, off, off - 3600, r.Intn(2*89999+1) - 89999}[r.Intn(4)]
	return summer(someName(r), off, someName(r), max(-89999, min(far, 89999)), anyRule(r), anyRule(r))
}

// W1, P18.1, P18.2: long texts and names.
func TestLongTexts(t *testing.T) {
	for _, one := range []string{"E", "0", "<", ">", ",", "-", ":", "\u0663", "EST5", "M3.2.0,", "<EST>"} {
		long := strings.Repeat(one, 1<<18)
		for _, s := range []string{long, "EST" + long, "<" + long, "<" + long + ">5", "EST5" + long, "EST5<" + long, "EST5EDT" + long, "EST5EDT," + long, "EST5EDT,M3.2.0" + long, "EST5EDT,M3.2.0," + long, "EST5EDT,M3.2.0,M11.1.0" + long} {
			checkNone(t, s)
		}
		checkWrong(t, plain(long, 0))
		checkWrong(t, changed(york(), func(f *api.Foot) { f.Dst.Abbr = long }))
	}
}

// spanYears are years that there are, of each kind.
func spanYears() []int {
	return []int{1, 2, 3, 4, 100, 400, 1582, 1900, 1969, 1970, 1972, 2000, 2023, 2024, 2025, 9996, 9998, 9999}
}

// noYears are those that there are not.
func noYears() []int {
	return []int{0, -1, -2, -4, -400, -2024, 10000, 10001, 12024, 1 << 16, 1<<16 + 2024, 1 << 32, 1<<32 + 2024, -1<<32 + 2024, least, least + 1, least + 2024, most, most - 1, -most}
}

// P18.3: spans written out.
func TestSpanByHand(t *testing.T) {
	checkSpan(t, york(), 2024, 1710054000, 1730613600, true)
	checkSpan(t, york(), 2023, second(2023, 3, 12, 7, 0, 0), second(2023, 11, 5, 6, 0, 0), true)
	checkSpan(t, york(), 1, second(1, 3, 11, 7, 0, 0), second(1, 11, 4, 6, 0, 0), true)
	checkSpan(t, york(), 9999, second(9999, 3, 14, 7, 0, 0), second(9999, 11, 7, 6, 0, 0), true)
	f := summer("CET", 3600, "CEST", 7200, weeks(3, 5, 0, 7200), weeks(10, 5, 0, 10800))
	checkSpan(t, f, 2024, second(2024, 3, 31, 1, 0, 0), second(2024, 10, 27, 1, 0, 0), true)
	f = summer("-03", -10800, "-02", -7200, weeks(3, 5, 0, -3600), weeks(10, 5, 0, -3600))
	checkSpan(t, f, 2024, second(2024, 3, 31, 2, 0, 0), second(2024, 10, 27, 1, 0, 0), true)
	// From greater than to, as south of the equator.
	f = summer("AEST", 36000, "AEDT", 39600, weeks(10, 1, 0, 7200), weeks(4, 1, 0, 10800))
	checkSpan(t, f, 2024, second(2024, 10, 5, 16, 0, 0), second(2024, 4, 6, 16, 0, 0), true)
	// Each of both by its own distance, at the very ends of what there is.
	f = summer("AAA", 89999, "BBB", -89999, days(0, -604799), days(365, 604799))
	checkSpan(t, f, 1, -62135596800-604799-89999, -62104060800+604799+89999, true)
	checkSpan(t, f, 9999, 253370764800-604799-89999, 253402300800+604799+89999, true)
	f = summer("AAA", -89999, "BBB", 89999, days(0, 0), days(0, 0))
	checkSpan(t, f, 1970, 89999, -89999, true)
	f = summer("AAA", 0, "BBB", 0, julian(1, 0), days(0, 0))
	checkSpan(t, f, 1970, 0, 0, true)
}

// P18.3: spans of many feet, in years of each kind, against the library's calendar, and in years that there are not.
func TestSpans(t *testing.T) {
	r := rand.New(rand.NewSource(3))
	feet := rightFeet()
	for range 2000 {
		feet = append(feet, anyFoot(r))
	}
	for k, f := range feet {
		for _, y := range append(spanYears(), 1+r.Intn(9999)) {
			if !f.Has {
				checkSpan(t, f, y, 0, 0, false)
				continue
			}
			checkSpan(t, f, y, slowAt(f.From, y)-f.Std.Off, slowAt(f.To, y)-f.Dst.Off, true)
		}
		if k%7 == 0 {
			for _, y := range noYears() {
				checkSpan(t, f, y, 0, 0, false)
			}
		}
	}
}

// P18.3: in each year.
func TestEachYear(t *testing.T) {
	f := summer("-03", -10800, "-02", -5400, weeks(10, 5, 0, -1), julian(60, 90000))
	for y := -10; y <= 10010; y++ {
		if y < 1 || y > 9999 {
			checkSpan(t, f, y, 0, 0, false)
			continue
		}
		checkSpan(t, f, y, slowAt(f.From, y)+10800, slowAt(f.To, y)+5400, true)
	}
}

// P18.3: of feet without Has, and of such that are not right, there is no span in any year.
func TestNoSpan(t *testing.T) {
	for _, f := range []api.Foot{plain("EST", -18000), plain("+00", 0), plain("UTC", 89999), {}, changed(york(), func(f *api.Foot) { f.Has = false })} {
		for _, y := range append(spanYears(), noYears()...) {
			checkSpan(t, f, y, 0, 0, false)
		}
	}
	for k, f := range wrongFeet() {
		if k%5 == 0 {
			for _, y := range noYears() {
				checkSpan(t, f, y, 0, 0, false)
			}
		}
	}
}

// lookupFeet are feet of each kind, for seconds to be looked up.
func lookupFeet() []api.Foot {
	l := []api.Foot{
		plain("UTC", 0), plain("EST", -18000), plain("+14", 50400), plain("LMT", 89999), plain("LMT", -89999), york(),
		summer("CET", 3600, "CEST", 7200, weeks(3, 5, 0, 7200), weeks(10, 5, 0, 10800)),
		summer("AEST", 36000, "AEDT", 39600, weeks(10, 1, 0, 7200), weeks(4, 1, 0, 10800)),
		summer("NZST", 43200, "NZDT", 46800, weeks(9, 5, 0, 7200), weeks(4, 1, 0, 10800)),
		summer("-04", -14400, "-03", -10800, weeks(9, 1, 6, 86400), weeks(4, 1, 6, 86400)),
		summer("IST", 3600, "GMT", 0, weeks(10, 5, 0, 7200), weeks(3, 5, 0, 3600)),
		summer("-02", -7200, "-01", -3600, weeks(3, 5, 0, -3600), weeks(10, 5, 0, 0)),
		summer("EET", 7200, "EEST", 10800, weeks(3, 4, 4, 180000), weeks(10, 4, 4, 180000)),
	}
	for _, off := range []int{-89999, -18000, -1, 0, 1, 36000, 89999} {
		for _, far := range []int{off, max(-89999, off-3600), min(89999, off+3600)} {
			for _, x := range [][2]api.Rule{
				{days(0, 0), julian(365, 86400)}, {days(0, 0), julian(365, 90000)}, {julian(1, 0), days(365, 0)}, {days(365, 604799), days(0, -604799)}, {days(0, -604799), days(365, 604799)}, {julian(365, 86399), julian(1, 1)}, {julian(1, 1), julian(365, 86399)},
				{days(59, 0), julian(60, 0)}, {julian(60, 0), days(59, 0)}, {weeks(2, 5, 4, 0), weeks(3, 1, 5, 7200)}, {julian(100, 7200), julian(100, 7200)}, {julian(100, 7200), julian(100, 7201)}, {julian(100, 7201), julian(100, 7200)}, {weeks(12, 5, 6, 604799), weeks(1, 1, 0, -604799)}, {weeks(1, 1, 0, -604799), weeks(12, 5, 6, 604799)}, {julian(200, -90000), julian(250, 100000)},
			} {
				l = append(l, summer("AAA", off, "BBB", far, x[0], x[1]))
			}
		}
	}
	return l
}

// P18.4: local times at seconds written out.
func TestLookupByHand(t *testing.T) {
	south := summer("AEST", 36000, "AEDT", 39600, weeks(10, 1, 0, 7200), weeks(4, 1, 0, 10800))
	always := summer("EST", -18000, "EDT", -14400, days(0, 0), julian(365, 90000))
	same := summer("AAA", 3600, "BBB", 3600, julian(100, 7200), julian(100, 7200))
	once := summer("AAA", 3600, "BBB", 3600, julian(100, 7200), julian(100, 7201))
	late := summer("AAA", 0, "BBB", 3600, days(0, -86400), julian(100, 0))
	for _, x := range []struct {
		f    api.Foot
		p    int
		want bool
	}{
		{york(), second(2024, 3, 10, 6, 59, 59), false}, {york(), second(2024, 3, 10, 7, 0, 0), true}, {york(), second(2024, 3, 10, 7, 0, 1), true}, {york(), second(2024, 11, 3, 5, 59, 59), true}, {york(), second(2024, 11, 3, 6, 0, 0), false}, {york(), second(2024, 11, 3, 6, 0, 1), false},
		{york(), second(2023, 3, 12, 6, 59, 59), false}, {york(), second(2023, 3, 12, 7, 0, 0), true}, {york(), second(2023, 11, 5, 5, 59, 59), true}, {york(), second(2023, 11, 5, 6, 0, 0), false}, {york(), second(2024, 1, 1, 0, 0, 0), false}, {york(), second(2024, 12, 31, 23, 59, 59), false}, {york(), second(2024, 7, 4, 0, 0, 0), true},
		{south, second(2024, 4, 6, 15, 59, 59), true}, {south, second(2024, 4, 6, 16, 0, 0), false}, {south, second(2024, 10, 5, 15, 59, 59), false}, {south, second(2024, 10, 5, 16, 0, 0), true}, {south, second(2023, 12, 31, 14, 0, 0), true}, {south, second(2023, 12, 31, 13, 59, 59), true}, {south, second(2024, 7, 1, 0, 0, 0), false},
		{always, second(2024, 1, 1, 4, 59, 59), true}, {always, second(2024, 1, 1, 5, 0, 0), true}, {always, second(2024, 7, 1, 0, 0, 0), true}, {always, second(2025, 1, 1, 4, 59, 59), true}, {always, second(2025, 1, 1, 5, 0, 0), true},
		// From and to the same: always.
		{same, second(2024, 4, 10, 1, 0, 0), true}, {same, second(2024, 4, 10, 0, 59, 59), true}, {same, second(2024, 4, 10, 1, 0, 1), true}, {same, second(2024, 1, 1, 0, 0, 0), true},
		// For a second only.
		{once, second(2024, 4, 10, 0, 59, 59), false}, {once, second(2024, 4, 10, 1, 0, 0), true}, {once, second(2024, 4, 10, 1, 0, 1), false},
		// It begins in the year ahead, but a second of that year asks that year's span.
		{late, second(2023, 12, 31, 0, 0, 0), false}, {late, second(2023, 12, 31, 23, 59, 59), false}, {late, second(2024, 1, 1, 0, 0, 0), true},
	} {
		want := x.f.Std
		if x.want {
			want = x.f.Dst
		}
		checkLookup(t, x.f, x.p, want)
	}
}

// edges are the seconds near all that turns in a foot in a year: where it begins and ends, by UTC and by local times.
func edges(f api.Foot, y int) []int {
	first := second(y, 1, 1, 0, 0, 0)
	l := []int{first, first - f.Std.Off, first - f.Dst.Off, second(y, 2, 29, 0, 0, 0), second(y, 7, 1, 0, 0, 0)}
	if f.Has {
		from, to := slowAt(f.From, y), slowAt(f.To, y)
		l = append(l, from, to, from-f.Std.Off, to-f.Dst.Off, from-f.Dst.Off, to-f.Std.Off)
	}
	all := []int{}
	for _, n := range l {
		all = append(all, n-86400, n-3600, n-2, n-1, n, n+1, n+2, n+3600, n+86400)
	}
	return all
}

// P18.4: all feet near all that turns, in years that leap and that don't, against the slow way.
func TestLookups(t *testing.T) {
	counts := map[string]int{}
	for _, f := range lookupFeet() {
		for _, y := range append(spanYears(), 10000) {
			for _, p := range edges(f, y) {
				want := slowLookup(f, p)
				checkLookup(t, f, p, want)
				counts[want.Abbr]++
			}
		}
	}
	if counts["AAA"] < 10000 || counts["BBB"] < 10000 {
		t.Errorf("of the seconds so many have: %v", counts)
	}
}

// P18.4: years are told by the usual time's days, not by those of UTC.
func TestYearsOfStd(t *testing.T) {
	for _, off := range []int{-89999, -43200, -1, 0, 1, 43200, 89999} {
		// The summer lasts just over the year's last day but one, in years that leap: their day 364.
		f := summer("AAA", off, "BBB", off, days(364, 0), days(365, 0))
		first := second(2025, 1, 1, 0, 0, 0) - off
		for n, dst := range map[int]bool{first - 1: false, first - 86400: false, first - 86401: true, first - 172800: true, first - 172801: false, first: false} {
			want := f.Std
			if dst {
				want = f.Dst
			}
			checkLookup(t, f, n, want)
		}
		// And over the last day, in years that don't.
		first = second(2024, 1, 1, 0, 0, 0) - off
		for n, dst := range map[int]bool{first - 1: true, first - 86400: true, first - 86401: false, first: false} {
			want := f.Std
			if dst {
				want = f.Dst
			}
			checkLookup(t, f, n, want)
		}
		// Where it begins ahead of the year, it holds from the year's own first second on.
		f = summer("AAA", off, "BBB", off, days(0, -86400), days(1, 0))
		checkLookup(t, f, first-1, f.Std)
		checkLookup(t, f, first, f.Dst)
		checkLookup(t, f, first+86399, f.Dst)
		checkLookup(t, f, first+86400, f.Std)
		// Where it ends behind the year, it holds up to the year's own last second.
		f = summer("AAA", off, "BBB", off, julian(365, 0), julian(365, 2*86400))
		checkLookup(t, f, first-1, f.Dst)
		checkLookup(t, f, first, f.Std)
	}
}

// P18.4: the first seconds and the last ones of all years that there are; beyond them it is always the usual time.
func TestLookupAtEnds(t *testing.T) {
	for _, off := range []int{-89999, -18000, -1, 0, 1, 18000, 89999} {
		for _, far := range []int{-89999, off, 89999} {
			// Always the time of the summer.
			f := summer("AAA", off, "BBB", far, days(0, -604799), days(365, 604799))
			first, end := -62135596800-off, 253402300800-off
			for _, n := range []int{first, first + 1, first + 86400, end - 1, end - 2, end - 86400, 0} {
				checkLookup(t, f, n, f.Dst)
			}
			for _, n := range []int{first - 1, first - 2, first - 86400, first - 1<<32, end, end + 1, end + 86399, end + 86400, end + 1<<32} {
				checkLookup(t, f, n, f.Std)
			}
			// The same, over the year's end.
			f.From, f.To = julian(200, 0), julian(200, 0)
			f.Dst.Off = off
			checkLookup(t, f, first-1, f.Std)
			checkLookup(t, f, first, f.Dst)
			checkLookup(t, f, end-1, f.Dst)
			checkLookup(t, f, end, f.Std)
		}
	}
}

// P18.4: at the least and the greatest numbers, where no sum may go round, it is always the usual time.
func TestLookupFarAway(t *testing.T) {
	for _, f := range append(lookupFeet(), rightFeet()[:200]...) {
		for _, p := range []int{least, least + 1, least + 3600, least + 18000, least + 89998, least + 89999, least + 90000, least + 1<<40, most, most - 1, most - 3600, most - 18000, most - 89998, most - 89999, most - 90000, most - 1<<40, 1 << 62, -1 << 62, 1 << 40, -1 << 40} {
			checkLookup(t, f, p, f.Std)
		}
	}
}

// P18.4: any seconds of any feet, against the slow way.
func TestLookupOfAny(t *testing.T) {
	r := rand.New(rand.NewSource(4))
	summers := 0
	for range 200000 {
		f := anyFoot(r)
		p := r.Intn(253402300800+62135596800) - 62135596800
		if l := edges(f, 1+r.Intn(9999)); r.Intn(2) == 0 {
			p = l[r.Intn(len(l))]
		}
		want := slowLookup(f, p)
		checkLookup(t, f, p, want)
		if want.Dst {
			summers++
		}
	}
	if summers < 50000 || summers > 150000 {
		t.Errorf("%d of 200000 seconds are of the summer", summers)
	}
}

// P18.4: each hour of four years, held against the spans.
func TestEachHour(t *testing.T) {
	for _, f := range []api.Foot{york(), summer("AEST", 36000, "AEDT", 39600, weeks(10, 1, 0, 7200), weeks(4, 1, 0, 10800))} {
		for y := 2021; y <= 2024; y++ {
			from, to := slowAt(f.From, y)-f.Std.Off, slowAt(f.To, y)-f.Dst.Off
			for p := second(y, 1, 1, 0, 0, 0) - f.Std.Off; p < second(y+1, 1, 1, 0, 0, 0)-f.Std.Off; p += 3600 {
				want := f.Std
				if from < to && p >= from && p < to || from > to && (p < to || p >= from) {
					want = f.Dst
				}
				checkLookup(t, f, p, want)
			}
		}
	}
}

// shares tells whether two texts that are not empty share memory.
func shares(a, b string) bool {
	first, second := uintptr(unsafe.Pointer(unsafe.StringData(a))), uintptr(unsafe.Pointer(unsafe.StringData(b)))
	return a != "" && b != "" && first < second+uintptr(len(b)) && second < first+uintptr(len(a))
}

// P18.5, W6: what is answered shares no memory with what was handed in, and that stays as it was.
func TestNothingIsShared(t *testing.T) {
	for _, s := range []string{"EST5EDT,M3.2.0,M11.1.0", "<-02>2<-01>1:30,M3.5.0/-1,365/0:00:09", "UTC0", "<+0530>-5:30"} {
		one := strings.Clone(s)
		f, ok := Parse(one)
		if !ok || one != s {
			t.Errorf("%q, %t: was %q", one, ok, s)
		}
		if shares(f.Std.Abbr, one) || shares(f.Dst.Abbr, one) || shares(f.Std.Abbr, f.Dst.Abbr) {
			t.Errorf("the names of %q share memory", s)
		}
		had := f
		had.Std.Abbr, had.Dst.Abbr = strings.Clone(f.Std.Abbr), strings.Clone(f.Dst.Abbr)
		for _, p := range []int{least, 0, second(2024, 1, 1, 0, 0, 0), second(2024, 7, 1, 0, 0, 0), most} {
			if k := Lookup(f, p); shares(k.Abbr, f.Std.Abbr) || shares(k.Abbr, f.Dst.Abbr) {
				t.Errorf("the name at %d of %q shares memory", p, s)
			}
		}
		text, _ := Text(f)
		if shares(text, f.Std.Abbr) || shares(text, f.Dst.Abbr) {
			t.Errorf("the text of %q shares memory", s)
		}
		Right(f)
		Span(f, 2024)
		if f != had {
			t.Errorf("%+v became %+v", had, f)
		}
	}
	if one := "EST5"; !shares(one[:3], one) {
		t.Error("what shares memory is not seen")
	}
}

// answers tells what all calls answer, of many arguments, as a text.
func answers() string {
	var all strings.Builder
	for k, f := range append(rightFeet()[:300], wrongFeet()[:200]...) {
		text, ok := Text(f)
		from, to, has := Span(f, 1900+k)
		fmt.Fprintln(&all, Right(f), text, ok, from, to, has)
	}
	for _, f := range lookupFeet()[:60] {
		for _, p := range edges(f, 2024) {
			fmt.Fprintln(&all, Lookup(f, p))
		}
		text, _ := Text(f)
		read, ok := Parse(text)
		fmt.Fprintln(&all, read, ok)
	}
	for _, s := range noFeet() {
		f, ok := Parse(s)
		fmt.Fprintln(&all, f, ok)
	}
	return all.String()
}

// P18.5, W2: no call hangs on an earlier one, whatever came between: nothing of the package is changed.
func TestNothingIsKept(t *testing.T) {
	had := answers()
	// Each thing behind each other one, right and wrong.
	for _, s := range []string{"EST5EDT,M3.2.0,M11.1.0", "UTC0", "<-03>3<-02>,0/0,J365/25", "", "EST5EDT", "<EST5", "EST5EDT,M3.2.0", "EST-24EDT,0,1"} {
		want, ok := slowParse(s)
		for _, f := range append(lookupFeet()[:20], wrongFeet()[:20]...) {
			checkParse(t, s, want, ok)
			right := slowRight(f)
			checkRight(t, f, right)
			Text(f)
			Span(f, 2024)
			Lookup(f, 0)
			checkParse(t, s, want, ok)
			checkRight(t, f, right)
		}
	}
	if again := answers(); again != had {
		t.Error("the answers are others than they were")
	}
}

// W1: of a foot that is not right nothing is promised of Lookup, but it tells something, everywhere.
func TestLookupOfWrongFeet(t *testing.T) {
	for _, f := range wrongFeet() {
		for _, p := range []int{least, -62135596800, 0, 1720000000, 253402300800, most} {
			Lookup(f, p)
		}
	}
}

// W2: calls at the same time, of the same things, do not touch each other.
func TestCallsAtTheSameTime(t *testing.T) {
	want := answers()
	var all sync.WaitGroup
	for range 16 {
		all.Go(func() {
			for range 5 {
				if got := answers(); got != want {
					t.Error("other answers at the same time as others")
				}
			}
		})
	}
	all.Wait()
}

// W1, P18.1 to P18.4, P18.6: whatever text, foot, year and second.
func FuzzFoot(f *testing.F) {
	for k, s := range noFeet() {
		f.Add(s, "EST", "EDT", -18000, 1000*k, true, 1, 60, 7200, 2024, 1720000000)
	}
	for k, one := range lookupFeet() {
		f.Add(slowText(one), one.Std.Abbr, one.Dst.Abbr, one.Std.Off, one.Dst.Off, one.Has, one.From.Kind, one.From.A, one.From.Sec, 90*k, 1<<k)
	}
	f.Add("EST25EDT,0,0", "+05", "", least, most, true, most, least, least, least, least)
	f.Add("<-03>3", "+05", "", 0, 0, false, 0, 0, 0, most, most)
	f.Fuzz(func(t *testing.T, s, name, other string, off, far int, has bool, kind, a, sec, y, p int) {
		read, ok := slowParse(s)
		checkParse(t, s, read, ok)
		from := api.Rule{Kind: kind, A: a, Sec: sec}
		if kind == api.RuleWeek {
			from.B, from.C = 1+(sec&3), y&3
		}
		built := plain(name, off)
		if has {
			built = summer(name, off, other, far, from, weeks(10, 5, 0, 7200))
		}
		for _, one := range []api.Foot{read, built, {Std: read.Std, Dst: built.Dst, Has: has, From: from, To: read.From}} {
			right := slowRight(one)
			checkRight(t, one, right)
			if !right {
				checkWrong(t, one)
				continue
			}
			checkBoth(t, one, slowText(one))
			checkLookup(t, one, p, slowLookup(one, p))
			if one.Has && y >= 1 && y <= 9999 {
				checkSpan(t, one, y, slowAt(one.From, y)-one.Std.Off, slowAt(one.To, y)-one.Dst.Off, true)
			} else {
				checkSpan(t, one, y, 0, 0, false)
			}
		}
	})
}
