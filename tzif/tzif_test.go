package tzif

import (
	"bytes"
	"encoding/binary"
	"math/rand"
	"regexp"
	"slices"
	"strconv"
	"strings"
	"sync"
	"testing"
	"time"
	"unsafe"

	"epact/api"
	"epact/zone"
)

const (
	most  = api.MaxInt
	least = api.MinInt
	far   = 1 << 60
	gap   = 2419199
)

// second tells the POSIX second of a date and a clock.
func second(y, m, d, hour, min, sec int) int {
	return int(time.Date(y, time.Month(m), d, hour, min, sec, 0, time.UTC).Unix())
}

// kind tells a kind of local time.
func kind(off int, abbr string) api.Type { return api.Type{Off: off, Abbr: abbr} }

// summer tells a kind of local time of the summer.
func summer(off int, abbr string) api.Type { return api.Type{Off: off, Dst: true, Abbr: abbr} }

// changes tells changes: an At and a Type by turns.
func changes(n ...int) []api.Trans {
	var l []api.Trans
	for k := 0; k < len(n); k += 2 {
		l = append(l, api.Trans{At: n[k], Type: n[k+1]})
	}
	return l
}

// records tells records of leap seconds: an At and a Corr by turns.
func records(n ...int) []api.Corr {
	var l []api.Corr
	for k := 0; k < len(n); k += 2 {
		l = append(l, api.Corr{At: n[k], Corr: n[k+1]})
	}
	return l
}

// utc is a zone of one kind, as in the chapter's example.
func utc() api.Zone {
	return api.Zone{Types: []api.Type{kind(0, "UTC")}, Version: 2}
}

// york is a zone with each part but leap seconds.
func york() api.Zone {
	return api.Zone{
		Types: []api.Type{kind(-17762, "LMT"), summer(-14400, "EDT"), kind(-18000, "EST")},
		Trans: changes(-2717650800, 2, 100, 1, 200, 2),
		Foot:  "EST5EDT,M3.2.0,M11.1.0", Version: 2,
	}
}

// inserted and removed are records of leap seconds of both kinds: of both the first two add one each; the next three of removed take one away each.
func inserted() []api.Corr { return records(78796800, 1, 94694401, 2) }

func removed() []api.Corr {
	return records(78796800, 1, 94694401, 2, 126230401, 1, 157766400, 0, 189302399, -1)
}

// published are the records of 1972 to 2016.
func published() []api.Corr {
	var l []api.Corr
	for k, d := range []int{911, 1095, 1460, 1825, 2190, 2556, 2921, 3286, 3651, 4198, 4563, 4928, 5659, 6573, 7304, 7669, 8216, 8581, 8946, 9495, 10042, 10591, 13148, 14244, 15521, 16616, 17166} {
		l = append(l, api.Corr{At: (d+1)*86400 + k, Corr: k + 1})
	}
	return l
}

// full is a zone with each part, of the last version, that expires.
func full() api.Zone {
	z := york()
	z.Leaps, z.Version = append(published(), api.Corr{At: 1782604827, Corr: 27}), 4
	return z
}

// copied tells z in new memory.
func copied(z api.Zone) api.Zone {
	z.Types, z.Trans, z.Leaps = slices.Clone(z.Types), slices.Clone(z.Trans), slices.Clone(z.Leaps)
	return z
}

// changed tells a copy of z that is changed.
func changed(z api.Zone, change func(z *api.Zone)) api.Zone {
	y := copied(z)
	change(&y)
	return y
}

// rising tells so many records, each of which is one more than that ahead, as near as they may be.
func rising(n int) []api.Corr {
	var l []api.Corr
	for k := range n {
		l = append(l, api.Corr{At: k * gap, Corr: k + 1})
	}
	return l
}

// feet are texts of feet that each version but the first may have.
func feet() []string {
	return []string{
		"UTC0", "EST5", "<+0530>-5:30", "<-03>3", "LMT-24:59:59", "LMT24:59:59", "EST5EDT,M3.2.0,M11.1.0", "CET-1CEST,M3.5.0,M10.5.0/3", "AEST-10AEDT,M10.1.0,M4.1.0/3", "IST-1GMT0,M10.5.0,M3.5.0/1",
		"EST5EDT4,J60,J300/0", "EST5EDT,0/0,J365/24", "<-04>4<-03>,M9.1.6/24,M4.1.6/24", "AAA0BBB0,J100,J100", "AAA0BBB-12,J1/0,365/24:00:00", "EST+5EDT+4,59/1:02:03,60",
	}
}

// farFeet are texts of feet that only the third version and the fourth may have.
func farFeet() []string {
	return []string{
		"EST5EDT,0/0,J365/25", "EET-2EEST,M3.4.4/50,M10.4.4/50", "<-02>2<-01>,M3.5.0/-1,M10.5.0/0", "<-02>2<-01>,M3.5.0/0,M10.5.0/-1", "AAA0BBB,J1/-167:59:59,J365/167:59:59", "AAA0BBB,J1/24:00:01,J365", "AAA0BBB,J1,J365/24:00:01", "AAA0BBB,J1/-0:00:01,J365", "AAA0BBB,J1,J365/-0:00:01", "AAA0BBB,0/-167,365/-167",
	}
}

// noFeet are texts that are none.
func noFeet() []string {
	return []string{
		"EST", "5", "ES5", "E5", "EST5E", "EST5ED", "EST5EDT", "EST5EDT,", "EST5EDT,M3.2.0", "EST5EDT,M3.2.0,", "EST5EDT,M3.2.0,M11.1", "EST5EDT,M3.2.0,M11.1.", "EST5EDT,M3.2.0,M11.1.0/", "ST5EDT,M3.2.0,M11.1.0x", "EST5EDT,M3.2.0,M11.1.0,", "EST5EDT,M3.2.0,M11.1.0,M1.1.0",
		" ", "\n", "\x00", " UTC0", "UTC0 ", "UTC 0", "UTC0\n", "UTC0\x00", "EST5EDT, M3.2.0,M11.1.0", "EST5EDT,M3.2.0, M11.1.0", "EST5EDT,M3.2.0,M11.1.0 ", " EST5EDT,M3.2.0,M11.1.0", "\tUTC0", "UTC0UTC0", "UTC0,J1,J2", "UTC0:", "UTC0/", "UTC25", "UTC-25:00:00", "<+03>", "<+03-3", "+03>-3", "<>0", "<+03>-3<+04", "EST5EDT,M3.2.0/168,M11.1.0", "EST5EDT,M13.2.0,M11.1.0", "EST5EDT,J0,J1", "EST5EDT,0,366", strings.Repeat("A", 17) + "0", "\xff\xff\xff0", "\u0395\u03a3\u03a40", ":EST5EDT", "America/New_York",
	}
}

// names tells n names, all different, of three bytes.
func names(n int) []string {
	var l []string
	for k := range n {
		l = append(l, strconv.Itoa(100+k))
	}
	return l
}

// someZones are right zones, of each version, with and without each part.
func someZones() []api.Zone {
	l := []api.Zone{utc(), york(), full(), sized(1, 0), sized(1, 1), sized(2, 1), sized(3, 2), sized(64, 2000), sized(1, 2000), sized(64, 0), sized(5, 40)}
	for k, s := range append(feet(), farFeet()...) {
		z := api.Zone{Types: []api.Type{kind(k*60, "LMT"), kind(3600, "+01"), summer(7200, "+02")}, Foot: s, Version: 3 + k%2}
		l = append(l, z)
		z.Trans = changes(second(1900+4*k, 6, 1, 0, 0, 0), 1+k%2)
		l = append(l, z)
		z.Leaps = published()
		l = append(l, z)
		z.Trans = changes(-far, 1, -5, 2, second(1970+k, 1, 1, 0, 0, 0), 1, second(1990+2*k, 7, 1, 0, 0, 0), 2)
		z.Leaps, z.Version = append(removed(), api.Corr{At: 1700000000, Corr: -1}), 4
		l = append(l, z)
	}
	for _, leaps := range [][]api.Corr{inserted(), removed(), published(), rising(1), rising(200), rising(201), records(0, -1), records(most, 1)} {
		l = append(l, changed(utc(), func(z *api.Zone) { z.Leaps, z.Version = leaps, 1 }), changed(york(), func(z *api.Zone) { z.Leaps = leaps }), changed(york(), func(z *api.Zone) { z.Leaps, z.Foot = leaps, "" }))
	}
	for _, leaps := range [][]api.Corr{records(0, 0), records(5, 0), records(most, 0), append(inserted(), api.Corr{At: 94694401, Corr: 2}), append(removed(), api.Corr{At: 189302400, Corr: -1}), append(rising(200), api.Corr{At: 199 * gap, Corr: 200})} {
		l = append(l, changed(full(), func(z *api.Zone) { z.Leaps = leaps }), changed(full(), func(z *api.Zone) { z.Leaps, z.Foot, z.Trans = leaps, "", nil }))
	}
	return l
}

// wrongZones are zones that are not right, each of them in one thing.
func wrongZones() []api.Zone {
	l := []api.Zone{{}, {Version: 2}, {Foot: "UTC0"}, {Foot: "UTC0", Version: 2}, {Trans: changes(0, 0), Leaps: inserted(), Version: 2}}
	for _, base := range []api.Zone{york(), full(), sized(64, 2000)} {
		for _, change := range []func(z *api.Zone){
			func(z *api.Zone) { z.Types = nil },
			func(z *api.Zone) { z.Types = sized(65, 0).Types },
			func(z *api.Zone) { z.Types[0].Off = 93600 },
			func(z *api.Zone) { z.Types[2].Off = least },
			func(z *api.Zone) { z.Types[1].Abbr = "" },
			func(z *api.Zone) { z.Types[1].Abbr = "E\x00T" },
			func(z *api.Zone) { z.Trans = sized(1, 2001).Trans },
			func(z *api.Zone) { z.Trans[0].Type = -1 },
			func(z *api.Zone) { z.Trans[2].Type = least },
			func(z *api.Zone) { z.Trans[len(z.Trans)-1].Type = len(z.Types) },
			func(z *api.Zone) { z.Trans[1].Type = most },
			func(z *api.Zone) { z.Trans[1].At = z.Trans[0].At },
			func(z *api.Zone) { z.Trans[1].At = most },
			func(z *api.Zone) { z.Trans[0].At = most },
			func(z *api.Zone) { z.Trans[2].At = least },
			func(z *api.Zone) { z.Leaps = records(5, 2) },
			func(z *api.Zone) { z.Leaps = records(most, least, least, most) },
			func(z *api.Zone) { z.Leaps, z.Version = records(5, 0), 3 },
			func(z *api.Zone) { z.Foot = "EST" },
			func(z *api.Zone) { z.Foot, z.Version = "UTC0", 1 },
			func(z *api.Zone) { z.Version = 0 },
			func(z *api.Zone) { z.Version = 5 },
		} {
			l = append(l, changed(base, change))
		}
	}
	return l
}

// sized tells a zone with so many kinds, all of the same name, and so many changes, to each of them by turns.
func sized(kinds, trans int) api.Zone {
	z := api.Zone{Types: make([]api.Type, kinds), Trans: make([]api.Trans, trans), Version: 2}
	for k := range z.Types {
		z.Types[k] = api.Type{Off: 900*k - 28800, Dst: k%3 == 1, Abbr: "EST"}
	}
	for k := range z.Trans {
		z.Trans[k] = api.Trans{At: 1000*k - 1000000, Type: (k + 1) % max(1, kinds)}
	}
	return z
}

// roomy tells l as a piece of a list, with others ahead of it and in its spare room, and the whole.
func roomy[E any](l []E, other E) ([]E, []E) {
	whole := slices.Concat([]E{other}, l, slices.Repeat([]E{other}, 70))
	return whole[1 : 1+len(l)], whole
}

// room is a zone whose lists are pieces of greater ones.
type room struct {
	zone  api.Zone
	types []api.Type
	trans []api.Trans
	leaps []api.Corr
}

func roomOf(z api.Zone) room {
	r := room{zone: z}
	r.zone.Types, r.types = roomy(z.Types, api.Type{Off: 77, Dst: true, Abbr: "ZZZ"})
	r.zone.Trans, r.trans = roomy(z.Trans, api.Trans{At: 77, Type: 7})
	r.zone.Leaps, r.leaps = roomy(z.Leaps, api.Corr{At: 77, Corr: 7})
	return r
}

// rightName is another way to tell whether a text is a name, by a pattern.
var rightName = regexp.MustCompile(`\A[A-Za-z0-9+-]{3,16}\z`)

// wrongNames are texts that are no names: too short, too long, with a byte that may not be.
func wrongNames() []string {
	return []string{
		"", "E", "ES", "+1", "--", "ABCDEFGHIJKLMNOPQ", strings.Repeat("A", 32), strings.Repeat("A", 256), strings.Repeat("A", 1<<16+3),
		"E T", " ES", "ES ", "E_T", "E.T", "<+03>", "E:T", "E@T", "E[T", "E`T", "E{T", "E/T", "E,T", "EST\n", "EST\x00", "\x00EST", "E\x00T", "\x00\x00\x00", "EST\x00EDT", "E\x7fT", "\u00c4ST", "ES\xff", "\xff\xff\xff", "\u212aST", "\u0130ST",
	}
}

func same(a, b api.Zone) bool {
	return slices.Equal(a.Types, b.Types) && slices.Equal(a.Trans, b.Trans) && slices.Equal(a.Leaps, b.Leaps) && a.Foot == b.Foot && a.Version == b.Version
}

// slowPool is another way to a pool, and to where each name begins.
func slowPool(z api.Zone) (string, []int, bool) {
	pool, begins := "", []int{}
	for k, one := range z.Types {
		if !rightName.MatchString(one.Abbr) {
			return "", nil, false
		}
		first := slices.IndexFunc(z.Types, func(x api.Type) bool { return x.Abbr == one.Abbr })
		if first < k {
			begins = append(begins, begins[first])
			continue
		}
		begins = append(begins, len(pool))
		pool += one.Abbr + "\x00"
	}
	return pool, begins, len(pool) <= 256
}

// slowNumber tells the number whose bytes these are.
func slowNumber(b []byte) int {
	switch len(b) {
	case 1:
		return int(b[0])
	case 4:
		return int(int32(binary.BigEndian.Uint32(b)))
	}
	return int(int64(binary.BigEndian.Uint64(b)))
}

// row is a kind of local time as it is laid.
type row struct {
	off        int
	dst, place byte
}

// raw lays data of any numbers, of which the lowest bytes count.
func raw(size int, trans []api.Trans, rows []row, pool string, leaps []api.Corr, behind ...byte) []byte {
	var b []byte
	lay := func(n, size int) {
		x, _ := slowLaid(n, size)
		b = append(b, x...)
	}
	for _, x := range trans {
		lay(x.At, size)
	}
	for _, x := range trans {
		lay(x.Type, 1)
	}
	for _, x := range rows {
		lay(x.off, 4)
		b = append(b, x.dst, x.place)
	}
	b = append(b, pool...)
	for _, x := range leaps {
		lay(x.At, size)
		lay(x.Corr, 4)
	}
	return append(b, behind...)
}

// slowAt is another way to a name in a pool, byte by byte.
func slowAt(pool string, at int) (string, bool) {
	for to := at; at >= 0 && to < len(pool); to++ {
		if pool[to] == 0 {
			return pool[at:to], rightName.MatchString(pool[at:to])
		}
	}
	return "", false
}

// slowDecode is another way to a zone: each part is sought where it stands.
func slowDecode(h api.Head, b []byte, size int) (api.Zone, bool) {
	if !slowRight(h) || size != 4 && size != 8 {
		return api.Zone{}, false
	}
	kinds := h.Time * size
	rows := kinds + h.Time
	pool := rows + 6*h.Type
	leaps := pool + h.Char
	std := leaps + h.Leap*(size+4)
	ut := std + h.Std
	if len(b) != ut+h.Ut {
		return api.Zone{}, false
	}
	z := api.Zone{Version: h.Version}
	for k := range h.Time {
		z.Trans = append(z.Trans, api.Trans{At: slowNumber(b[k*size : (k+1)*size]), Type: int(b[kinds+k])})
	}
	for k := range h.Type {
		x := b[rows+6*k : rows+6*k+6]
		name, ok := slowAt(string(b[pool:leaps]), int(x[5]))
		if !ok || x[4] > 1 {
			return api.Zone{}, false
		}
		z.Types = append(z.Types, api.Type{Off: slowNumber(x[:4]), Dst: x[4] == 1, Abbr: name})
	}
	for k := range h.Leap {
		x := b[leaps+k*(size+4):]
		z.Leaps = append(z.Leaps, api.Corr{At: slowNumber(x[:size]), Corr: slowNumber(x[size : size+4])})
	}
	if !slowMarks(h, b[std:ut], b[ut:]) {
		return api.Zone{}, false
	}
	return z, true
}

// slowMarks is another way to tell whether the bytes of Std and of Ut may be.
func slowMarks(h api.Head, std, ut []byte) bool {
	if h.Std == 0 {
		std = make([]byte, h.Type)
	}
	if h.Ut == 0 {
		ut = make([]byte, h.Type)
	}
	for k := range h.Type {
		switch [2]byte{std[k], ut[k]} {
		case [2]byte{0, 0}, [2]byte{1, 0}, [2]byte{1, 1}:
		default:
			return false
		}
	}
	return true
}

// slowLaid tells the bytes of n, of which the lowest ones count, and whether they say n.
func slowLaid(n, size int) ([]byte, bool) {
	all := binary.BigEndian.AppendUint64(nil, uint64(n))
	b := all[8-size:]
	return b, slowNumber(b) == n
}

// brief tells the most that is to be seen of a zone in a line.
func brief(z api.Zone) string {
	s := "version " + strconv.Itoa(z.Version) + ", foot " + strconv.Quote(z.Foot)
	s += ", types " + strconv.Itoa(len(z.Types))
	for _, x := range z.Types[:min(4, len(z.Types))] {
		s += " " + strconv.Quote(x.Abbr[:min(20, len(x.Abbr))]) + " " + strconv.Itoa(x.Off) + " " + strconv.FormatBool(x.Dst)
	}
	s += ", changes " + strconv.Itoa(len(z.Trans))
	for _, x := range z.Trans[:min(4, len(z.Trans))] {
		s += " " + strconv.Itoa(x.At) + " " + strconv.Itoa(x.Type)
	}
	s += ", leaps " + strconv.Itoa(len(z.Leaps))
	for _, x := range z.Leaps[:min(4, len(z.Leaps))] {
		s += " " + strconv.Itoa(x.At) + " " + strconv.Itoa(x.Corr)
	}
	return s
}

// shares tells whether two texts that are not empty share memory.
func shares(a, b string) bool {
	first, second := uintptr(unsafe.Pointer(unsafe.StringData(a))), uintptr(unsafe.Pointer(unsafe.StringData(b)))
	return first < second+uintptr(len(b)) && second < first+uintptr(len(a))
}

// spoil changes all of z's lists, their spare room too.
func spoil(z api.Zone) {
	for k := range z.Types[:cap(z.Types)] {
		z.Types[:cap(z.Types)][k] = api.Type{Off: 99, Abbr: "spoilt"}
	}
	for k := range z.Trans[:cap(z.Trans)] {
		z.Trans[:cap(z.Trans)][k] = api.Trans{At: 99, Type: 9}
	}
	for k := range z.Leaps[:cap(z.Leaps)] {
		z.Leaps[:cap(z.Leaps)][k] = api.Corr{At: 99, Corr: 9}
	}
}

// parts are those of a file, as they stand behind each other: of the first version the first head and its data alone.
type parts struct {
	first, skip, second, data, tail string
}

// file tells all of p.
func (p parts) file() []byte {
	return []byte(p.first + p.skip + p.second + p.data + p.tail)
}

// with tells the file of p that is changed.
func (p parts) with(change func(p *parts)) []byte {
	change(&p)
	return p.file()
}

// versionByte tells the byte of a version, if it has one.
func versionByte(v int) byte {
	return []byte{0, '2', '3', '4'}[v-1]
}

// rawHead lays a head of any numbers, of which the lowest four bytes count.
func rawHead(version byte, numbers ...int) string {
	b := append([]byte("TZif"), version)
	b = append(b, make([]byte, 15)...)
	for _, n := range numbers {
		b = binary.BigEndian.AppendUint32(b, uint32(n))
	}
	return string(b)
}

// headOf lays a head.
func headOf(h api.Head) string {
	return rawHead(versionByte(h.Version), h.Ut, h.Std, h.Leap, h.Time, h.Type, h.Char)
}

// dataOf lays the data of a zone, and tells how many bytes its pool has.
func dataOf(z api.Zone, size int) (string, int) {
	pool, begins, _ := slowPool(z)
	var rows []row
	for k, x := range z.Types {
		one := row{off: x.Off, place: byte(begins[k])}
		if x.Dst {
			one.dst = 1
		}
		rows = append(rows, one)
	}
	return string(raw(size, z.Trans, rows, pool, z.Leaps)), len(pool)
}

// partsOf is another way to the file of a right zone.
func partsOf(z api.Zone) parts {
	size := 8
	if z.Version == 1 {
		size = 4
	}
	data, char := dataOf(z, size)
	own := headOf(api.Head{Version: z.Version, Leap: len(z.Leaps), Time: len(z.Trans), Type: len(z.Types), Char: char})
	if z.Version == 1 {
		return parts{first: own, skip: data}
	}
	return parts{rawHead(versionByte(z.Version), 0, 0, 0, 0, 1, 1), "\x00\x00\x00\x00\x00\x00\x00", own, data, "\n" + z.Foot + "\n"}
}

// fileOf is another way to the file of a right zone.
func fileOf(z api.Zone) []byte { return partsOf(z).file() }

// slowEncode is another way to the file of any zone.
func slowEncode(z api.Zone) ([]byte, bool) {
	if !zone.Right(z) || z.Version == 1 && !slowFits(z) {
		return nil, false
	}
	return fileOf(z), true
}

// slowFits tells whether all times of z have room in four bytes.
func slowFits(z api.Zone) bool {
	for _, x := range z.Trans {
		if int(int32(x.At)) != x.At {
			return false
		}
	}
	for _, x := range z.Leaps {
		if int(int32(x.At)) != x.At {
			return false
		}
	}
	return true
}

// slowHead is another way to a head, with the rest of the bytes.
func slowHead(b []byte) (api.Head, []byte, bool) {
	if len(b) < 44 || string(b[:4]) != "TZif" || string(b[5:20]) != strings.Repeat("\x00", 15) {
		return api.Head{}, nil, false
	}
	var n [6]int
	for k := range n {
		n[k] = int(binary.BigEndian.Uint32(b[20+4*k:]))
	}
	h := api.Head{Version: 1 + bytes.IndexByte([]byte("\x00234"), b[4]), Ut: n[0], Std: n[1], Leap: n[2], Time: n[3], Type: n[4], Char: n[5]}
	return h, b[44:], slowRight(h)
}

// slowRight is another way to tell whether a head is right.
func slowRight(h api.Head) bool {
	if h.Ut != 0 && h.Ut != h.Type || h.Std != 0 && h.Std != h.Type {
		return false
	}
	return h.Version > 0 && h.Version < 5 && h.Leap >= 0 && h.Leap < 202 && h.Time >= 0 && h.Time < 2001 && h.Type > 0 && h.Type < 65 && h.Char > 0 && h.Char < 257
}

// slowSize is another way to how many bytes follow a right head.
func slowSize(h api.Head, size int) int {
	return len(raw(size, make([]api.Trans, h.Time), make([]row, h.Type), strings.Repeat("x", h.Char), make([]api.Corr, h.Leap), make([]byte, h.Std+h.Ut)...))
}

// slowRead is another way to what a file tells, whether that is right or not.
func slowRead(b []byte) (api.Zone, bool) {
	first, b, ok := slowHead(b)
	if !ok {
		return api.Zone{}, false
	}
	if first.Version == 1 {
		return slowDecode(first, b, 4)
	}
	skip := slowSize(first, 4)
	if skip > len(b) {
		return api.Zone{}, false
	}
	h, b, ok := slowHead(b[skip:])
	if !ok || h.Version != first.Version || slowSize(h, 8) > len(b) {
		return api.Zone{}, false
	}
	n := slowSize(h, 8)
	z, ok := slowDecode(h, b[:n], 8)
	lines := strings.Split(string(b[n:]), "\n")
	if !ok || len(lines) != 3 || lines[0] != "" || lines[2] != "" {
		return api.Zone{}, false
	}
	z.Foot = lines[1]
	return z, true
}

// slowFile is another way to the zone of a file.
func slowFile(b []byte) (api.Zone, api.Errno) {
	z, ok := slowRead(b)
	switch {
	case !ok:
		return api.Zone{}, api.ErrForm
	case !zone.Right(z):
		return api.Zone{}, api.ErrRange
	}
	return z, api.OK
}

// short tells the beginning of some bytes, as a text.
func short(b []byte) string {
	return strconv.Itoa(len(b)) + " bytes " + strconv.Quote(string(b[:min(400, len(b))]))
}

func checkEncode(t *testing.T, z api.Zone, want []byte, ok bool) {
	t.Helper()
	had := copied(z)
	if b, is := Encode(z); !bytes.Equal(b, want) || is != ok {
		t.Errorf("Encode of %s: %s, %t; want %s, %t", brief(z), short(b), is, short(want), ok)
	}
	if slow, is := slowEncode(z); !bytes.Equal(slow, want) || is != ok {
		t.Errorf("the slow way to Encode of %s: %s, %t; want %s, %t", brief(z), short(slow), is, short(want), ok)
	}
	if !same(z, had) {
		t.Errorf("Encode of %s changed it to %s", brief(had), brief(z))
	}
}

// checkUnlaid asks for the file of a zone that has none.
func checkUnlaid(t *testing.T, z api.Zone) {
	t.Helper()
	checkEncode(t, z, nil, false)
}

// checkDecode asks Decode and Right of some bytes.
func checkDecode(t *testing.T, b []byte, want api.Zone, e api.Errno) {
	t.Helper()
	had := slices.Clone(b)
	if z, f := Decode(b); !same(z, want) || f != e {
		t.Errorf("Decode of %s: %s, %d; want %s, %d", short(b), brief(z), f, brief(want), e)
	}
	if z, f := slowFile(b); !same(z, want) || f != e {
		t.Errorf("the slow way to Decode of %s: %s, %d; want %s, %d", short(b), brief(z), f, brief(want), e)
	}
	if ok := Right(b); ok != (e == api.OK) {
		t.Errorf("Right of %s: %t", short(b), ok)
	}
	if !bytes.Equal(b, had) {
		t.Errorf("%s was changed to %s", short(had), short(b))
	}
}

// checkWrong asks for what is wrong in some bytes.
func checkWrong(t *testing.T, b []byte, e api.Errno) {
	t.Helper()
	checkDecode(t, b, api.Zone{}, e)
}

// checkBoth asks for the file of a zone, and for the zone of the file.
func checkBoth(t *testing.T, z api.Zone) {
	t.Helper()
	b := fileOf(z)
	checkEncode(t, z, b, true)
	checkDecode(t, b, z, api.OK)
}

// asVersion tells z of another version, without what that one has not.
func asVersion(z api.Zone, v int) api.Zone {
	return changed(z, func(z *api.Zone) {
		z.Version = v
		if v == 1 {
			z.Foot = ""
			z.Trans = slices.DeleteFunc(z.Trans, func(x api.Trans) bool { return int(int32(x.At)) != x.At })
		}
	})
}

// old is a zone of the first version, with each part that it may have.
func old() api.Zone {
	z := asVersion(york(), 1)
	z.Leaps = removed()
	return z
}

// smallZones are right zones of each version, whose files are short.
func smallZones() []api.Zone {
	l := []api.Zone{old(), asVersion(utc(), 1)}
	for v := 2; v <= 4; v++ {
		l = append(l, asVersion(utc(), v), asVersion(york(), v), changed(york(), func(z *api.Zone) { z.Version, z.Leaps = v, inserted() }))
	}
	return append(l, changed(york(), func(z *api.Zone) { z.Leaps, z.Version = records(78796800, 1, 100000000, 1), 4 }))
}

// P20.1, P20.2: the chapter's example.
func TestExample(t *testing.T) {
	name := "TZif2" + strings.Repeat("\x00", 15)
	first := name + "\x00\x00\x00\x00\x00\x00\x00\x00\x00\x00\x00\x00\x00\x00\x00\x00\x00\x00\x00\x01\x00\x00\x00\x01"
	second := name + "\x00\x00\x00\x00\x00\x00\x00\x00\x00\x00\x00\x00\x00\x00\x00\x00\x00\x00\x00\x01\x00\x00\x00\x04"
	want := first + "\x00\x00\x00\x00\x00\x00\x00" + second + "\x00\x00\x00\x00\x00\x00UTC\x00" + "\n\n"
	if len(first) != 44 || len(second) != 44 || len(want) != 44+7+44+10+2 {
		t.Fatalf("%d bytes", len(want))
	}
	checkEncode(t, utc(), []byte(want), true)
	checkDecode(t, []byte(want), utc(), api.OK)
}

// P20.1, P20.2: files written out, of the first version and of the last one, with each part.
func TestFilesByHand(t *testing.T) {
	z := api.Zone{
		Types: []api.Type{kind(-18000, "EST"), summer(-14400, "EDT"), kind(1, "EST")},
		Trans: changes(-2, 1, 258, 2), Leaps: records(78796800, 1, 94694401, 0), Version: 1,
	}
	noughts := strings.Repeat("\x00", 15)
	numbers := "\x00\x00\x00\x00\x00\x00\x00\x00\x00\x00\x00\x02\x00\x00\x00\x02\x00\x00\x00\x03\x00\x00\x00\x08"
	kinds := "\xff\xff\xb9\xb0\x00\x00\xff\xff\xc7\xc0\x01\x04\x00\x00\x00\x01\x00\x00EST\x00EDT\x00"
	was := "TZif\x00" + noughts + numbers + "\xff\xff\xff\xfe\x00\x00\x01\x02\x01\x02" + kinds + "\x04\xb2\x58\x00\x00\x00\x00\x01\x05\xa4\xec\x01\x00\x00\x00\x00"
	checkEncode(t, z, []byte(was), true)
	checkDecode(t, []byte(was), z, api.OK)
	is := "TZif@" + noughts + "\x00\x00\x00\x00\x00\x00\x00\x00\x00\x00\x00\x00\x00\x00\x00\x00\x00\x00\x00\x01\x00\x00\x00\x01\x00\x00\x00\x00\x00\x00\x00" +
		"TZif@" + noughts + numbers + "\xff\xff\xff\xff\xff\xff\xff\xfe\x00\x00\x00\x00\x00\x00\x01\x02\x01\x02" + kinds +
		"\x00\x00\x00\x00\x04\xb2\x58\x00\x00\x00\x00\x01\x00\x00\x00\x00\x05\xa4\xec\x01\x00\x00\x00\x00" + "\n<+03>-3\n"
	z.Foot = "<+03>-3"
	for v, digit := range map[int]string{2: "2", 3: "3", 4: "4"} {
		z.Version = v
		b := []byte(strings.ReplaceAll(is, "@", digit))
		checkEncode(t, z, b, true)
		checkDecode(t, b, z, api.OK)
	}
}

// P20.1, P20.2, P20.5: zones of each version, with and without each part, are written and read as they were.
func TestAllVersions(t *testing.T) {
	for _, z := range append(someZones(), smallZones()...) {
		if z.Version == 1 && !slowFits(z) {
			checkUnlaid(t, z)
			continue
		}
		checkBoth(t, z)
	}
	for v := -1; v <= 5; v++ {
		for _, foot := range []string{"", "UTC0", "EST5EDT,M3.2.0,M11.1.0", "EST5EDT,M3.2.0/-1,M11.1.0"} {
			for _, trans := range [][]api.Trans{nil, {}, changes(5, 0), changes(-5, 1, 5, 0)} {
				for _, leaps := range [][]api.Corr{nil, {}, inserted(), removed(), records(5, 0), append(inserted(), api.Corr{At: 1 << 30, Corr: 2})} {
					z := changed(york(), func(z *api.Zone) { z.Version, z.Foot, z.Trans, z.Leaps = v, foot, trans, leaps })
					expires := len(leaps) == 1 || len(leaps) == 3
					if v < 1 || v > 4 || v == 1 && foot != "" || v == 2 && strings.Contains(foot, "-") || v != 4 && expires {
						checkUnlaid(t, z)
						continue
					}
					checkBoth(t, z)
				}
			}
		}
	}
	for _, v := range []int{least, -256, 0, 5, 48, 50, 256, 258, most} {
		checkUnlaid(t, changed(utc(), func(z *api.Zone) { z.Version = v }))
	}
}

// P20.1, P20.2: as many of each part as there may be, and one more.
func TestHowMany(t *testing.T) {
	for v := 1; v <= 4; v++ {
		for _, kinds := range []int{1, 2, 63, 64, 65} {
			for _, trans := range []int{0, 1, 255, 256, 1999, 2000, 2001} {
				for _, leaps := range []int{0, 1, 200, 201, 202} {
					z := sized(kinds, trans)
					z.Leaps, z.Version = rising(leaps), v
					if kinds > 64 || trans > 2000 || leaps > 201 {
						checkUnlaid(t, z)
						continue
					}
					checkBoth(t, z)
				}
			}
		}
	}
	z := sized(64, 3)
	for k, s := range names(64) {
		z.Types[k].Abbr = s
	}
	checkBoth(t, z)
	z.Types[63].Abbr = "ABCD"
	checkUnlaid(t, z)
}

// P20.1: zones that are not right have no file.
func TestWrongZones(t *testing.T) {
	for _, z := range wrongZones() {
		checkUnlaid(t, z)
	}
	for _, z := range []api.Zone{york(), full(), old()} {
		for _, s := range append(wrongNames(), "E\nT", "EST\n") {
			for k := range z.Types {
				checkUnlaid(t, changed(z, func(z *api.Zone) { z.Types[k].Abbr = s }))
			}
		}
		for _, s := range noFeet() {
			checkUnlaid(t, changed(z, func(z *api.Zone) { z.Foot = s }))
		}
		for _, n := range []int{-90000, 93600, 1 << 31, -1 << 31, 1 << 32, most, least} {
			for k := range z.Types {
				checkUnlaid(t, changed(z, func(z *api.Zone) { z.Types[k].Off = n }))
			}
		}
		for k := range z.Trans {
			for _, n := range []int{-1, 3, 64, 256, most, least} {
				checkUnlaid(t, changed(z, func(z *api.Zone) { z.Trans[k].Type = n }))
			}
		}
	}
	for _, s := range feet() {
		checkUnlaid(t, changed(old(), func(z *api.Zone) { z.Foot = s }))
	}
	for _, s := range farFeet() {
		checkUnlaid(t, changed(york(), func(z *api.Zone) { z.Foot = s }))
		checkBoth(t, changed(york(), func(z *api.Zone) { z.Foot, z.Version = s, 3 }))
		checkBoth(t, changed(york(), func(z *api.Zone) { z.Foot, z.Version = s, 4 }))
	}
}

// P20.1: times that have room in four bytes and that have none, in each version: of changes, the first one, in the middle, and the last one.
func TestTimesOfChanges(t *testing.T) {
	for _, x := range []struct {
		at  []int
		old bool
	}{
		{[]int{-1 << 31}, true}, {[]int{-1<<31 - 1}, false}, {[]int{1<<31 - 1}, true}, {[]int{1 << 31}, false},
		{[]int{-1 << 31, 0, 1}, true}, {[]int{-1<<31 - 1, 0, 1}, false}, {[]int{-1<<31 - 1, -1 << 31, 1}, false}, {[]int{-1<<31 - 2, -1<<31 - 1, 1}, false}, {[]int{-1<<31 - 3, -1<<31 - 2, -1<<31 - 1}, false},
		{[]int{-1 << 31, -1<<31 + 1, 1<<31 - 1}, true}, {[]int{0, 1<<31 - 2, 1<<31 - 1}, true}, {[]int{0, 1, 1<<31 - 1}, true}, {[]int{0, 1, 1 << 31}, false}, {[]int{0, 1<<31 - 1, 1 << 31}, false}, {[]int{0, 1 << 31, 1<<31 + 1}, false}, {[]int{1 << 31, 1<<31 + 1, 1<<31 + 2}, false},
		{[]int{0, 1, most}, false}, {[]int{least, 0, 1}, false}, {[]int{-1 << 32, 0}, false}, {[]int{0, 1 << 32}, false}, {[]int{0, 1<<32 + 5}, false}, {[]int{-1<<63 + 5, 0}, false}, {[]int{-1<<31 - 1, 0, 1 << 31}, false},
	} {
		z := asVersion(york(), 1)
		z.Trans = nil
		for _, at := range x.at {
			z.Trans = append(z.Trans, api.Trans{At: at, Type: 1})
		}
		for v := 1; v <= 4; v++ {
			z.Version = v
			for _, leaps := range [][]api.Corr{nil, inserted()} {
				z.Leaps = leaps
				if v == 1 && !x.old {
					checkUnlaid(t, z)
					continue
				}
				checkBoth(t, z)
			}
		}
	}
}

// P20.1: the same of leap seconds, which are not ahead of 0.
func TestTimesOfLeaps(t *testing.T) {
	const end = 1 << 31
	for _, x := range []struct {
		at  []int
		old bool
	}{
		{[]int{end - 1}, true}, {[]int{end}, false}, {[]int{0, gap, end - 1}, true}, {[]int{0, gap, end}, false}, {[]int{0, end - 1, end - 1 + gap}, false}, {[]int{0, end, end + gap}, false}, {[]int{end - 1, end - 1 + gap, end - 1 + 2*gap}, false}, {[]int{end, end + gap, end + 2*gap}, false}, {[]int{end - 1 - 2*gap, end - 1 - gap, end - 1}, true}, {[]int{1 << 32}, false}, {[]int{5, 1 << 32}, false}, {[]int{5, most}, false}, {[]int{most}, false}, {[]int{0, 1<<32 + 5, 1<<32 + 5 + gap}, false},
	} {
		for v := 1; v <= 4; v++ {
			z := asVersion(york(), v)
			z.Leaps, z.Foot = nil, ""
			for k, at := range x.at {
				z.Leaps = append(z.Leaps, api.Corr{At: at, Corr: k + 1})
			}
			if v == 1 && !x.old {
				checkUnlaid(t, z)
				continue
			}
			checkBoth(t, z)
		}
	}
	for _, at := range []int{-1, -1 << 31, -1<<31 - 1, least} {
		for v := 1; v <= 4; v++ {
			checkUnlaid(t, changed(asVersion(york(), v), func(z *api.Zone) { z.Leaps = records(at, 1) }))
			checkUnlaid(t, changed(asVersion(york(), v), func(z *api.Zone) { z.Leaps = records(5, 1, at, 2) }))
		}
	}
}

// P20.2: each beginning of a file is none, nor is a file with something behind it, or ahead of it.
func TestBeginnings(t *testing.T) {
	for _, z := range append(smallZones(), full()) {
		b := fileOf(z)
		for k := range b {
			checkWrong(t, b[:k], api.ErrForm)
		}
		for c := range 256 {
			checkWrong(t, append(slices.Clone(b), byte(c)), api.ErrForm)
			checkWrong(t, append([]byte{byte(c)}, b...), api.ErrForm)
		}
		for _, s := range []string{"\n\n", "UTC0\n", "\x00\x00\x00\x00", string(b), strings.Repeat("\x00", 4096)} {
			checkWrong(t, append(slices.Clone(b), s...), api.ErrForm)
		}
		for k := 1; k < len(b); k++ {
			checkWrong(t, b[k:], api.ErrForm)
		}
	}
	checkWrong(t, nil, api.ErrForm)
	checkWrong(t, []byte{}, api.ErrForm)
	for _, s := range []string{"\n", "\n\n", "\n\n\n", "T", "TZif", "TZif2", "UTC0", strings.Repeat("\x00", 44), strings.Repeat("\x00", 500), strings.Repeat("TZif2", 50)} {
		checkWrong(t, []byte(s), api.ErrForm)
	}
}

// P20.2: what stands between the heads counts for its number of bytes alone: whatever they are, and whatever the first head counts.
func TestWhateverIsSkipped(t *testing.T) {
	for _, z := range smallZones() {
		if z.Version == 1 {
			continue
		}
		p := partsOf(z)
		for _, h := range []api.Head{
			{Type: 1, Char: 1}, {Type: 1, Char: 2}, {Type: 2, Char: 1}, {Time: 1, Type: 1, Char: 1}, {Leap: 1, Type: 1, Char: 1}, {Std: 1, Type: 1, Char: 1}, {Ut: 1, Type: 1, Char: 1}, {Ut: 1, Std: 1, Type: 1, Char: 1}, {Std: 3, Type: 3, Char: 9}, {Ut: 5, Type: 5, Char: 1},
			{Type: 64, Char: 1}, {Type: 1, Char: 256}, {Time: 2000, Type: 1, Char: 1}, {Leap: 201, Type: 1, Char: 1}, {Ut: 64, Std: 64, Leap: 201, Time: 2000, Type: 64, Char: 256}, {Ut: 2, Std: 2, Leap: 3, Time: 4, Type: 2, Char: 7},
		} {
			h.Version = z.Version
			n := 5*h.Time + 6*h.Type + h.Char + 8*h.Leap + h.Std + h.Ut
			own, _ := dataOf(z, 4)
			for _, skip := range []string{"\x00", "\xff", "\n", "TZif2", p.second, string(p.file()), own + "\x02"} {
				skip = strings.Repeat(skip, n/len(skip)+1)
				with := func(n int) []byte {
					return p.with(func(p *parts) { p.first, p.skip = headOf(h), skip[:n] })
				}
				checkDecode(t, with(n), z, api.OK)
				checkWrong(t, with(n-1), api.ErrForm)
				checkWrong(t, p.with(func(p *parts) { p.first, p.skip = headOf(h), skip[:n]+"\x00" }), api.ErrForm)
				checkWrong(t, p.with(func(p *parts) { p.first, p.skip = headOf(h), "" }), api.ErrForm)
				checkWrong(t, []byte(headOf(h)+skip[:n]), api.ErrForm)
				checkWrong(t, []byte(headOf(h)+skip[:n-1]), api.ErrForm)
			}
		}
	}
}

// P20.2: the data of a zone may stand between the heads in four bytes, as in files that others write.
func TestDataOfOldReaders(t *testing.T) {
	for _, z := range smallZones() {
		if z.Version == 1 {
			continue
		}
		p := partsOf(z)
		data, _ := dataOf(z, 4)
		checkDecode(t, p.with(func(p *parts) { p.first, p.skip = p.second, data }), z, api.OK)
		checkWrong(t, p.with(func(p *parts) { p.first, p.skip = p.second, data[1:] }), api.ErrForm)
		checkWrong(t, p.with(func(p *parts) { p.first, p.skip = p.second, p.data+"\x00" }), api.ErrForm)
		if len(z.Trans) > 0 {
			checkWrong(t, p.with(func(p *parts) { p.first, p.skip = p.second, p.data }), api.ErrForm)
		}
	}
}

// wrongHeads are heads that are none, each of them in one thing, of a version.
func wrongHeads(h api.Head) []string {
	was := headOf(h)
	var l []string
	for k := range 4 {
		for _, c := range []byte{0, 'T', 'z', '2', was[k] ^ 1, was[k] ^ 0x20, was[k] ^ 0x80} {
			if c != was[k] {
				l = append(l, was[:k]+string([]byte{c})+was[k+1:])
			}
		}
	}
	for c := range 256 {
		if !strings.Contains("\x00234", string([]byte{byte(c)})) {
			l = append(l, was[:4]+string([]byte{byte(c)})+was[5:])
		}
	}
	for k := 5; k < 20; k++ {
		for _, c := range []byte{1, ' ', '0', 128, 255} {
			l = append(l, was[:k]+string([]byte{c})+was[k+1:])
		}
	}
	v := versionByte(h.Version)
	for _, n := range []int{-1, -1 << 31, 1<<31 - 1, 1 << 16, 1 << 24, 4096} {
		l = append(l, rawHead(v, n, h.Std, h.Leap, h.Time, h.Type, h.Char), rawHead(v, h.Ut, n, h.Leap, h.Time, h.Type, h.Char), rawHead(v, h.Ut, h.Std, n, h.Time, h.Type, h.Char), rawHead(v, h.Ut, h.Std, h.Leap, n, h.Type, h.Char), rawHead(v, h.Ut, h.Std, h.Leap, h.Time, n, h.Char), rawHead(v, h.Ut, h.Std, h.Leap, h.Time, h.Type, n))
	}
	return append(l,
		rawHead(v, h.Type+1, 0, h.Leap, h.Time, h.Type, h.Char), rawHead(v, 0, h.Type+1, h.Leap, h.Time, h.Type, h.Char), rawHead(v, h.Type-1, h.Type+1, h.Leap, h.Time, h.Type, h.Char), rawHead(v, 0, 0, 202, h.Time, h.Type, h.Char), rawHead(v, 0, 0, h.Leap, 2001, h.Type, h.Char), rawHead(v, 0, 0, h.Leap, h.Time, 65, h.Char), rawHead(v, 0, 0, h.Leap, h.Time, 0, h.Char), rawHead(v, 0, 0, h.Leap, h.Time, h.Type, 257), rawHead(v, 0, 0, h.Leap, h.Time, h.Type, 0),
	)
}

// P20.2: a first head that is none, and a second one, in each of their parts.
func TestWrongHeads(t *testing.T) {
	for _, z := range smallZones() {
		p := partsOf(z)
		h, _, _ := slowHead([]byte(p.first + p.skip))
		for _, s := range wrongHeads(h) {
			checkWrong(t, p.with(func(p *parts) { p.first = s }), api.ErrForm)
			if z.Version > 1 {
				checkWrong(t, p.with(func(p *parts) { p.first, p.skip = s, "" }), api.ErrForm)
			}
		}
		h, _, ok := slowHead([]byte(p.second + p.data))
		if !ok {
			continue
		}
		for _, s := range wrongHeads(h) {
			checkWrong(t, p.with(func(p *parts) { p.second = s }), api.ErrForm)
		}
		// One of each number, without bytes for it.
		for k := range 6 {
			n := []int{h.Ut, h.Std, h.Leap, h.Time, h.Type, h.Char}
			n[k]++
			checkWrong(t, p.with(func(p *parts) { p.second = rawHead(versionByte(h.Version), n...) }), api.ErrForm)
			n[k] -= 2
			checkWrong(t, p.with(func(p *parts) { p.second = rawHead(versionByte(h.Version), n...) }), api.ErrForm)
		}
		checkWrong(t, p.with(func(p *parts) { p.second = "" }), api.ErrForm)
		checkWrong(t, p.with(func(p *parts) { p.second += p.second }), api.ErrForm)
		checkWrong(t, p.with(func(p *parts) { p.first, p.skip = "", "" }), slowErr(p.second+p.data+p.tail))
	}
}

// slowErr tells what is wrong in some bytes, by the slow way.
func slowErr(s string) api.Errno {
	_, e := slowFile([]byte(s))
	return e
}

// P20.2: the second head has the version of the first one, whichever of them is the greater one.
func TestVersionsOfHeads(t *testing.T) {
	for _, base := range []api.Zone{utc(), york()} {
		for first := 1; first <= 4; first++ {
			for second := 1; second <= 4; second++ {
				z := asVersion(base, 2)
				p := partsOf(z)
				blank := rawHead(versionByte(first), 0, 0, 0, 0, 1, 1)
				b := p.with(func(p *parts) {
					p.first = blank
					p.second = p.second[:4] + string([]byte{versionByte(second)}) + p.second[5:]
				})
				if first == second && first > 1 {
					z.Version = first
					checkDecode(t, b, z, api.OK)
					continue
				}
				checkWrong(t, b, api.ErrForm)
			}
		}
	}
	// A file of the first version ends with its data, whatever is behind them.
	b := fileOf(asVersion(utc(), 1))
	for _, z := range []api.Zone{utc(), york()} {
		checkWrong(t, slices.Concat(b, []byte(partsOf(z).second+partsOf(z).data+partsOf(z).tail)), api.ErrForm)
		checkWrong(t, slices.Concat(b, fileOf(z)), api.ErrForm)
	}
}

// P20.2: of the first version nothing stands behind the data: no foot, no line feed.
func TestNoFootOfTheFirstVersion(t *testing.T) {
	for _, z := range []api.Zone{asVersion(utc(), 1), old()} {
		for _, s := range []string{"\n", "\n\n", "\nUTC0\n", "\nEST5EDT,M3.2.0,M11.1.0\n", "UTC0", "\x00"} {
			checkWrong(t, append(fileOf(z), s...), api.ErrForm)
		}
		// Times of eight bytes are none.
		long, char := dataOf(z, 8)
		checkWrong(t, []byte(headOf(api.Head{Version: 1, Leap: len(z.Leaps), Time: len(z.Trans), Type: len(z.Types), Char: char})+long+"\n"), api.ErrForm)
	}
}

// laid tells the file of a version with these parts of data, as they are, and a foot.
func laid(version int, trans []api.Trans, rows []row, pool string, leaps []api.Corr, std, ut, foot string) []byte {
	size := 8
	if version == 1 {
		size = 4
	}
	own := headOf(api.Head{Version: version, Ut: len(ut), Std: len(std), Leap: len(leaps), Time: len(trans), Type: len(rows), Char: len(pool)})
	data := string(raw(size, trans, rows, pool, leaps, []byte(std+ut)...))
	if version == 1 {
		return []byte(own + data)
	}
	return []byte(rawHead(versionByte(version), 0, 0, 0, 0, 1, 1) + strings.Repeat("\x00", 7) + own + data + "\n" + foot + "\n")
}

// P20.2: bytes for Dst that are neither 0 nor 1, and names that do not begin where they should.
func TestWrongData(t *testing.T) {
	pool := "LMT\x00EDT\x00"
	for v := 1; v <= 4; v++ {
		rows := []row{{off: -18000}, {off: -14400, dst: 1, place: 4}, {off: 60, place: 4}}
		z := api.Zone{Types: []api.Type{kind(-18000, "LMT"), summer(-14400, "EDT"), kind(60, "EDT")}, Trans: changes(-5, 1, 5, 2), Leaps: inserted(), Version: v}
		file := func() []byte { return laid(v, z.Trans, rows, pool, z.Leaps, "", "", "") }
		checkDecode(t, file(), z, api.OK)
		for k := range rows {
			had := rows[k]
			for c := range 256 {
				rows[k].dst = byte(c)
				want := changed(z, func(z *api.Zone) { z.Types[k].Dst = c == 1 })
				if c < 2 {
					checkDecode(t, file(), want, api.OK)
				} else {
					checkWrong(t, file(), api.ErrForm)
				}
				rows[k] = had
				rows[k].place = byte(c)
				switch c {
				case 0:
					checkDecode(t, file(), changed(z, func(z *api.Zone) { z.Types[k].Abbr = "LMT" }), api.OK)
				case 4:
					checkDecode(t, file(), changed(z, func(z *api.Zone) { z.Types[k].Abbr = "EDT" }), api.OK)
				default:
					checkWrong(t, file(), api.ErrForm)
				}
				rows[k] = had
			}
		}
		for _, s := range []string{"LMT\x00EDTx", "LMT?EDT\x00", "L\x00T\x00EDT\x00", "LMT\x00E T\x00", "LMT\x00E\nT\x00", "LMT\x00ED\x00\x00", "LM\xff\x00EDT\x00", "ABCDEFGHIJKLMNOPQ\x00"} {
			had := pool
			pool = s
			checkWrong(t, file(), api.ErrForm)
			pool = had
		}
	}
}

// P20.2: names within each other, and bytes of the pool that are no name's, are read, and written otherwise.
func TestOtherPools(t *testing.T) {
	for v := 1; v <= 4; v++ {
		for _, x := range []struct {
			pool   string
			places []byte
			want   []string
		}{
			{"LEST\x00", []byte{0, 1}, []string{"LEST", "EST"}}, {"LEST\x00", []byte{1}, []string{"EST"}}, {"\x00\x00UTC\x00\x00\x00", []byte{2}, []string{"UTC"}}, {"UTC\x00EST\x00", []byte{4, 0}, []string{"EST", "UTC"}}, {"UTC\x00UTC\x00", []byte{4, 0}, []string{"UTC", "UTC"}}, {"UTC\x00\xff\n?", []byte{0}, []string{"UTC"}}, {strings.Repeat("?", 252) + "UTC\x00", []byte{252}, []string{"UTC"}},
		} {
			z := api.Zone{Version: v}
			var rows []row
			for k, place := range x.places {
				rows = append(rows, row{off: k, place: place})
				z.Types = append(z.Types, kind(k, x.want[k]))
			}
			b := laid(v, nil, rows, x.pool, nil, "", "", "")
			checkDecode(t, b, z, api.OK)
			checkBoth(t, z)
			if bytes.Equal(fileOf(z), b) {
				t.Errorf("%s is written as it was", short(b))
			}
		}
		// Names that have room within each other, but none when each is laid by itself.
		var rows []row
		for k := range 14 {
			rows = append(rows, row{place: byte(k)})
		}
		checkDecode(t, laid(v, nil, rows, "ABCDEFGHIJKLMNOP\x00", nil, "", "", ""), nested(v, 14), api.OK)
		for k := range 14 {
			rows = append(rows, row{place: byte(17 + k)})
		}
		checkWrong(t, laid(v, nil, rows, "ABCDEFGHIJKLMNOP\x00abcdefghijklmnop\x00", nil, "", "", ""), api.ErrRange)
	}
}

// nested tells a zone of n kinds, each of which has the name of the one ahead without its first letter.
func nested(version, n int) api.Zone {
	z := api.Zone{Version: version}
	for k := range n {
		z.Types = append(z.Types, kind(0, "ABCDEFGHIJKLMNOP"[k:]))
	}
	return z
}

// P20.2: bytes of Std and Ut that are right are read, and are not in the zone; such that are not make no file.
func TestMarks(t *testing.T) {
	for v := 1; v <= 4; v++ {
		rows := []row{{off: -18000}, {off: -14400, dst: 1, place: 4}}
		z := api.Zone{Types: []api.Type{kind(-18000, "EST"), summer(-14400, "EDT")}, Trans: changes(-5, 1), Version: v}
		for _, x := range []struct {
			std, ut string
			right   bool
		}{
			{"", "", true}, {"\x00\x00", "", true}, {"\x01\x00", "", true}, {"\x00\x01", "", true}, {"\x01\x01", "", true}, {"", "\x00\x00", true}, {"\x00\x00", "\x00\x00", true}, {"\x01\x00", "\x01\x00", true}, {"\x00\x01", "\x00\x01", true}, {"\x01\x01", "\x00\x01", true}, {"\x01\x01", "\x01\x01", true}, {"\x01\x00", "\x00\x00", true},
			{"\x02\x00", "", false}, {"\x00\x02", "", false}, {"\x00\xff", "", false}, {"\x01\x01", "\x02\x00", false}, {"\x01\x01", "\x00\x02", false}, {"\x01\x01", "\xff\x01", false}, {"", "\x01\x00", false}, {"", "\x00\x01", false}, {"\x01\x00", "\x00\x01", false}, {"\x00\x01", "\x01\x00", false}, {"\x00\x00", "\x01\x01", false}, {"\x01\x00", "\x01\x01", false},
		} {
			b := laid(v, z.Trans, rows, "EST\x00EDT\x00", nil, x.std, x.ut, "")
			if !x.right {
				checkWrong(t, b, api.ErrForm)
				continue
			}
			checkDecode(t, b, z, api.OK)
			again, ok := Encode(z)
			if bytes.Equal(again, b) != (x.std+x.ut == "") || !ok {
				t.Errorf("%s is written as %s, %t", short(b), short(again), ok)
			}
			checkDecode(t, again, z, api.OK)
			// So many, but without one of their bytes, or with one more.
			checkWrong(t, slices.Delete(slices.Clone(b), len(b)-3, len(b)-2), api.ErrForm)
			checkWrong(t, slices.Insert(slices.Clone(b), len(b)-2, 0), api.ErrForm)
		}
	}
}

// P20.2: a line feed stands behind the data, and one behind the foot, and no other one.
func TestLineFeeds(t *testing.T) {
	for _, z := range smallZones() {
		if z.Version == 1 {
			continue
		}
		p := partsOf(z)
		for _, foot := range []string{"", "UTC0", "EST5EDT,M3.2.0,M11.1.0"} {
			with := func(tail string) []byte {
				return p.with(func(p *parts) { p.tail = tail })
			}
			checkDecode(t, with("\n"+foot+"\n"), changed(z, func(z *api.Zone) { z.Foot = foot }), api.OK)
			for _, s := range []string{foot, foot + "\n", "\n" + foot + "\n\n", "\n\n" + foot + "\n", "\n\n" + foot + "\n\n", "\n" + foot + "\nx", "\n" + foot + "\n\x00", "\n" + foot + "\n\n\x00", "\n" + foot + "\nUTC0\n", "x" + "\n" + foot + "\n", "\x00\n" + foot + "\n", "\r\n" + foot + "\n"} {
				checkWrong(t, with(s), api.ErrForm)
			}
			if foot != "" {
				checkWrong(t, with("\n"+foot), api.ErrForm)
				for k := range foot {
					checkWrong(t, with("\n"+foot[:k]+"\n"+foot[k:]+"\n"), api.ErrForm)
					checkWrong(t, with("\n"+foot[:k]+"\n"+foot[k+1:]+"\n"), api.ErrForm)
				}
			}
			for c := range 256 {
				if c == '\n' {
					continue
				}
				one := string([]byte{byte(c)})
				checkWrong(t, with(one+foot+"\n"), api.ErrForm)
				checkWrong(t, with("\n"+foot+one), api.ErrForm)
				checkWrong(t, with(one+foot+one), api.ErrForm)
			}
		}
		for _, s := range []string{"", "\n", "x", "\n\n\n", "xx", "\nx", "x\n"} {
			checkWrong(t, p.with(func(p *parts) { p.tail = s }), api.ErrForm)
		}
		checkDecode(t, p.with(func(p *parts) { p.tail = "\n\n" }), changed(z, func(z *api.Zone) { z.Foot = "" }), api.OK)
	}
}

// P20.2: feet that are none, and that are none of this version, though the form is that of a file.
func TestWrongFeet(t *testing.T) {
	for _, z := range smallZones() {
		if z.Version == 1 {
			continue
		}
		p := partsOf(z)
		with := func(foot string) []byte {
			return p.with(func(p *parts) { p.tail = "\n" + foot + "\n" })
		}
		for _, s := range noFeet() {
			if strings.Contains(s, "\n") {
				checkWrong(t, with(s), api.ErrForm)
				continue
			}
			checkWrong(t, with(s), api.ErrRange)
		}
		for _, s := range feet() {
			checkDecode(t, with(s), changed(z, func(z *api.Zone) { z.Foot = s }), api.OK)
			checkWrong(t, with(s+"\r"), api.ErrRange)
		}
		for _, s := range farFeet() {
			if z.Version == 2 {
				checkWrong(t, with(s), api.ErrRange)
				continue
			}
			checkDecode(t, with(s), changed(z, func(z *api.Zone) { z.Foot = s }), api.OK)
		}
	}
}

// P20.2: what has the form of a file, and tells a zone that is not right, in each thing but the foot.
func TestOutOfRange(t *testing.T) {
	for v := 1; v <= 4; v++ {
		base := api.Zone{Types: []api.Type{kind(-18000, "EST"), summer(-14400, "EDT"), kind(60, "LMT")}, Trans: changes(-5, 1, 5, 2, 9, 0), Leaps: inserted(), Version: v}
		checkBoth(t, base)
		for _, change := range []func(z *api.Zone){
			func(z *api.Zone) { z.Trans[1].At = -5 }, func(z *api.Zone) { z.Trans[1].At = -6 }, func(z *api.Zone) { z.Trans[2].At = 5 }, func(z *api.Zone) { z.Trans[2].At = -1 << 31 }, func(z *api.Zone) { z.Trans[0].At = 1<<31 - 1 }, func(z *api.Zone) { z.Trans[1].At = 9 },
			func(z *api.Zone) { z.Trans[0].Type = 3 }, func(z *api.Zone) { z.Trans[1].Type = 4 }, func(z *api.Zone) { z.Trans[2].Type = 255 },
			func(z *api.Zone) { z.Types[0].Off = -90000 }, func(z *api.Zone) { z.Types[1].Off = 93600 }, func(z *api.Zone) { z.Types[2].Off = -1 << 31 }, func(z *api.Zone) { z.Types[0].Off = 1<<31 - 1 },
			func(z *api.Zone) { z.Leaps[0].Corr = 2 }, func(z *api.Zone) { z.Leaps[1].Corr = 3 }, func(z *api.Zone) { z.Leaps[1].Corr = -1 << 31 }, func(z *api.Zone) { z.Leaps[0].At = -1 }, func(z *api.Zone) { z.Leaps[1].At = 78796800 }, func(z *api.Zone) { z.Leaps[1].At = 5 }, func(z *api.Zone) { z.Leaps[1].At = 78796800 + gap - 1 }, func(z *api.Zone) { z.Leaps = records(5, 0, 5+gap, 1) },
		} {
			checkWrong(t, fileOf(changed(base, change)), api.ErrRange)
		}
		for _, change := range []func(z *api.Zone){
			func(z *api.Zone) { z.Trans[1].At = -4 }, func(z *api.Zone) { z.Trans[0].At, z.Trans[2].At = -1<<31, 1<<31-1 }, func(z *api.Zone) { z.Trans[1].Type = 0 }, func(z *api.Zone) { z.Types[0].Off = -89999 }, func(z *api.Zone) { z.Types[1].Off = 93599 }, func(z *api.Zone) { z.Leaps[1].Corr = 0 }, func(z *api.Zone) { z.Leaps = records(0, -1) }, func(z *api.Zone) { z.Leaps[1].At = 78796800 + gap },
		} {
			checkBoth(t, changed(base, change))
		}
		for _, leaps := range [][]api.Corr{records(5, 0), records(0, 0), append(inserted(), api.Corr{At: 94694401, Corr: 2}), append(removed(), api.Corr{At: 1 << 30, Corr: -1})} {
			z := changed(base, func(z *api.Zone) { z.Leaps = leaps })
			if v < 4 {
				checkWrong(t, fileOf(z), api.ErrRange)
				continue
			}
			checkBoth(t, z)
		}
		if v == 1 {
			continue
		}
		checkWrong(t, fileOf(changed(base, func(z *api.Zone) { z.Trans[0].At, z.Trans[1].At, z.Trans[2].At = most, least, 0 })), api.ErrRange)
		checkWrong(t, fileOf(changed(base, func(z *api.Zone) { z.Leaps = records(most, 1, least, 2) })), api.ErrRange)
		checkBoth(t, changed(base, func(z *api.Zone) { z.Trans[0].At, z.Trans[2].At = least, most }))
	}
}

// P20.2: where both are wrong, it is the form that is told, whichever stands ahead of the other.
func TestWrongInBothWays(t *testing.T) {
	for v := 1; v <= 4; v++ {
		base := api.Zone{Types: []api.Type{kind(-18000, "EST"), summer(-14400, "EDT")}, Trans: changes(-5, 1, 5, 0), Leaps: inserted(), Version: v}
		for _, change := range []func(z *api.Zone){
			func(z *api.Zone) { z.Trans[1].At = -5 }, func(z *api.Zone) { z.Trans[0].Type = 2 }, func(z *api.Zone) { z.Types[0].Off = 93600 }, func(z *api.Zone) { z.Leaps[0].Corr = 3 },
		} {
			p := partsOf(changed(base, change))
			checkWrong(t, p.file(), api.ErrRange)
			own, _, _ := slowHead([]byte(p.first + p.skip))
			n := slowSize(own, 4)
			if v > 1 {
				own, _, _ = slowHead([]byte(p.second + p.data))
				n = slowSize(own, 8)
			}
			// The mark of the first kind, and where the name of the second one begins.
			places := n - 2*12 - 8 - 2*6
			if v == 1 {
				places = n - 2*8 - 8 - 2*6
			}
			for _, at := range []int{places + 4, places + 5, places + 11} {
				spoilt := func(s string) string { return s[:at] + "\x63" + s[at+1:] }
				if v == 1 {
					checkWrong(t, p.with(func(p *parts) { p.skip = spoilt(p.skip) }), api.ErrForm)
					continue
				}
				checkWrong(t, p.with(func(p *parts) { p.data = spoilt(p.data) }), api.ErrForm)
				checkWrong(t, p.with(func(p *parts) { p.data, p.tail = spoilt(p.data), "\nEST\n" }), api.ErrForm)
			}
			checkWrong(t, append(p.file(), 0), api.ErrForm)
			checkWrong(t, p.file()[:len(p.file())-1], api.ErrForm)
			if v == 1 {
				continue
			}
			for _, tail := range []string{"", "\n", "x\n", "\nx", "\nUTC0", "\nUTC0\n\n", "\nEST\nx\n", "\n\nEST\n"} {
				checkWrong(t, p.with(func(p *parts) { p.tail = tail }), api.ErrForm)
			}
			checkWrong(t, p.with(func(p *parts) { p.tail = "\nEST\n" }), api.ErrRange)
			checkWrong(t, p.with(func(p *parts) { p.tail = "\nUTC0\n" }), api.ErrRange)
			checkWrong(t, p.with(func(p *parts) { p.skip = p.skip[1:] }), api.ErrForm)
			checkWrong(t, p.with(func(p *parts) { p.first = rawHead('1', 0, 0, 0, 0, 1, 1) }), api.ErrForm)
		}
	}
}

// P20.2, P20.3, P20.5: each byte at each place of a file: what is read is right, may be written, and is then read as it was.
func TestEachByte(t *testing.T) {
	counts := map[api.Errno]int{}
	small := api.Zone{Types: []api.Type{kind(-18000, "EST"), summer(-14400, "EDT")}, Trans: changes(-5, 1), Leaps: records(78796800, 1), Version: 1}
	for v := 1; v <= 4; v++ {
		z := asVersion(small, v)
		if v > 1 {
			z.Foot = "EST5EDT,J1/0,365"
		}
		b := fileOf(z)
		for k := range b {
			had := b[k]
			for c := range 256 {
				b[k] = byte(c)
				want, e := slowFile(b)
				checkDecode(t, b, want, e)
				counts[e]++
				if e == api.OK {
					checkBoth(t, want)
				}
			}
			b[k] = had
		}
	}
	if counts[api.OK] < 5000 || counts[api.ErrRange] < 5000 || counts[api.ErrForm] < 50000 || len(counts) != 3 {
		t.Errorf("so many of each error: %v", counts)
	}
}

// anyZone tells a right zone of any parts.
func anyZone(r *rand.Rand) api.Zone {
	z := api.Zone{Version: 1 + r.Intn(4)}
	for range 1 + r.Intn([]int{1, 3, 12}[r.Intn(3)]) {
		z.Types = append(z.Types, api.Type{Off: []int{-89999, 93599, 0, 3600 * (r.Intn(24) - 12), r.Intn(93600+89999) - 89999}[r.Intn(5)], Dst: r.Intn(2) == 0, Abbr: names(12)[r.Intn(12)]})
	}
	at := []int{least, -far, -1 << 40, -1 << 31, -2147483600, 0, r.Intn(1 << 31)}[r.Intn(7)]
	for range r.Intn([]int{1, 2, 9, 60}[r.Intn(4)]) {
		z.Trans = append(z.Trans, api.Trans{At: at, Type: r.Intn(len(z.Types))})
		at += 1 + r.Intn([]int{1, 5, 1 << 25, 1 << 28}[r.Intn(4)])
	}
	at, sum := r.Intn(1<<28), 0
	for range r.Intn([]int{1, 2, 9, 60}[r.Intn(4)]) {
		sum += 2*r.Intn(2) - 1
		z.Leaps = append(z.Leaps, api.Corr{At: at, Corr: sum})
		at += gap + r.Intn(2)*r.Intn(1<<25)
	}
	if z.Version == 4 && r.Intn(2) == 0 {
		z.Leaps = append(z.Leaps, api.Corr{At: at - r.Intn(2)*gap, Corr: sum})
	}
	all := [][]string{{""}, feet(), append(feet(), farFeet()...), append(feet(), farFeet()...)}[z.Version-1]
	if r.Intn(4) > 0 {
		z.Foot = all[r.Intn(len(all))]
	}
	return z
}

// P20.1, P20.2, P20.5: any zones are written and read as they were, but those of the first version whose times have no room.
func TestAnyZones(t *testing.T) {
	r := rand.New(rand.NewSource(20))
	unlaid := 0
	for range 6000 {
		z := anyZone(r)
		if z.Version == 1 && !slowFits(z) {
			checkUnlaid(t, z)
			unlaid++
			continue
		}
		checkBoth(t, z)
	}
	if unlaid < 200 || unlaid > 3000 {
		t.Errorf("of 6000 zones %d have no file", unlaid)
	}
}

// spoilt changes some of b.
func spoilt(r *rand.Rand, b []byte) []byte {
	b = slices.Clone(b)
	for range 1 + r.Intn(2) {
		k := r.Intn(len(b))
		switch r.Intn(6) {
		case 0:
			b = slices.Delete(b, k, k+1)
		case 1:
			b = slices.Insert(b, k, byte(r.Intn(256)))
		case 2:
			b = b[:k+1]
		default:
			b[k] = []byte{0, 1, 2, '\n', 255, b[k] + 1, b[k] - 1, byte(r.Intn(256))}[r.Intn(8)]
		}
		if len(b) == 0 {
			break
		}
	}
	return b
}

// P20.2, P20.5: any files, some of whose bytes are others, against the slow way; what is read is right, and is read again.
func TestAnyFiles(t *testing.T) {
	r := rand.New(rand.NewSource(202))
	counts := map[api.Errno]int{}
	for range 20000 {
		z := anyZone(r)
		p := partsOf(z)
		if r.Intn(3) == 0 && z.Version > 1 {
			// What the first head tells is nothing to the zone.
			h := api.Head{Version: z.Version, Time: r.Intn(5), Type: 1 + r.Intn(5), Char: 1 + r.Intn(5), Leap: r.Intn(5)}
			p.first, p.skip = headOf(h), strings.Repeat("?", slowSize(h, 4))
		}
		b := p.file()
		if r.Intn(5) > 0 {
			b = spoilt(r, b)
		}
		want, e := slowFile(b)
		checkDecode(t, b, want, e)
		counts[e]++
		if e != api.OK {
			continue
		}
		got, _ := Decode(b)
		again, ok := Encode(got)
		back, e := Decode(again)
		if !zone.Right(got) || !ok || !same(back, got) || e != api.OK || !Right(again) {
			t.Errorf("%s is read as %s, and as %s, %d, again", short(b), brief(got), brief(back), e)
		}
	}
	if counts[api.OK] < 3000 || counts[api.ErrRange] < 1000 || counts[api.ErrForm] < 3000 || len(counts) != 3 {
		t.Errorf("so many of each error: %v", counts)
	}
}

// P20.5: unlike zones have unlike files, and the same zone has the same one.
func TestUnlikeZones(t *testing.T) {
	r := rand.New(rand.NewSource(205))
	all := append(someZones(), smallZones()...)
	for range 2000 {
		all = append(all, anyZone(r))
	}
	files := map[string]api.Zone{}
	for _, z := range all {
		b, ok := Encode(z)
		if !ok {
			continue
		}
		if other, has := files[string(b)]; has && !same(z, other) {
			t.Errorf("%s and %s have the same file", brief(z), brief(other))
		}
		files[string(b)] = z
	}
	for _, base := range []api.Zone{full(), old(), york()} {
		b, _ := Encode(base)
		for _, change := range []func(z *api.Zone){
			func(z *api.Zone) { z.Types[0].Off++ }, func(z *api.Zone) { z.Types[2].Dst = !z.Types[2].Dst }, func(z *api.Zone) { z.Types[1].Abbr += "x" }, func(z *api.Zone) { z.Types = append(z.Types, z.Types[0]) }, func(z *api.Zone) { z.Trans = nil }, func(z *api.Zone) { z.Trans[0].Type = 0 }, func(z *api.Zone) { z.Trans[1].At++ }, func(z *api.Zone) { z.Leaps = records(5, 1) }, func(z *api.Zone) { z.Leaps = records(5, -1) },
		} {
			if other, _ := Encode(changed(base, change)); bytes.Equal(b, other) {
				t.Errorf("%s has the file of another zone", brief(base))
			}
		}
	}
}

// isAs tells whether all of the greater lists are as those of another one.
func (r room) isAs(o room) bool {
	return slices.Equal(r.types, o.types) && slices.Equal(r.trans, o.trans) && slices.Equal(r.leaps, o.leaps)
}

// P20.4, W6: what is handed to Encode stays as it was, with its spare room, and is not kept; each answer is new memory, its spare room too.
func TestZonesAreNotChanged(t *testing.T) {
	tooFar := changed(old(), func(z *api.Zone) { z.Trans = changes(1<<31, 0) })
	for _, z := range []api.Zone{{}, utc(), york(), full(), old(), tooFar, sized(64, 2000), sized(65, 2001), changed(york(), func(z *api.Zone) { z.Foot = "EST" })} {
		mine, had := roomOf(z), roomOf(z)
		want, ok := slowEncode(z)
		first, is := Encode(mine.zone)
		second, _ := Encode(mine.zone)
		if !mine.isAs(had) {
			t.Fatalf("%s was changed", brief(z))
		}
		if !bytes.Equal(first, want) || is != ok {
			t.Errorf("Encode of %s: %s, %t", brief(z), short(first), is)
		}
		first = first[:cap(first)]
		for k := range first {
			first[k] = 0x5a
		}
		if !bytes.Equal(second, want) || !mine.isAs(had) {
			t.Errorf("the file of %s shares memory with another one, or with the zone", brief(z))
		}
		spoil(mine.zone)
		clear(mine.types)
		if !bytes.Equal(second, want) {
			t.Errorf("the file of %s changed with it", brief(z))
		}
		third, _ := Encode(had.zone)
		if !bytes.Equal(third, want) {
			t.Errorf("Encode of %s hangs on what it answered earlier: %s", brief(z), short(third))
		}
	}
}

// P20.4, W6: the bytes that are handed to Decode and Right stay as they were, with their spare room, and are not kept; each answer is new memory.
func TestBytesAreNotChanged(t *testing.T) {
	wrong := append(fileOf(york()), 0)
	for _, file := range [][]byte{nil, []byte("TZif"), fileOf(utc()), fileOf(york()), fileOf(full()), fileOf(old()), fileOf(sized(64, 2000)), wrong, fileOf(changed(york(), func(z *api.Zone) { z.Foot = "EST" }))} {
		want, e := slowFile(file)
		b, whole := roomy(file, 0xa5)
		had := slices.Clone(whole)
		first, f := Decode(b)
		second, _ := Decode(b)
		if ok := Right(b); ok != (e == api.OK) || f != e {
			t.Errorf("%s: %t, %d", short(b), ok, f)
		}
		if !bytes.Equal(whole, had) {
			t.Fatalf("%s became %s", short(had), short(whole))
		}
		clear(whole)
		if !same(first, want) || !same(second, want) {
			t.Errorf("%s and %s changed with their bytes", brief(first), brief(second))
		}
		spoil(first)
		first.Types = append(first.Types, api.Type{Off: 98})
		first.Trans = append(first.Trans, api.Trans{At: 98})
		first.Leaps = append(first.Leaps, api.Corr{At: 98})
		if !same(second, want) {
			t.Errorf("two answers share memory: %s", brief(second))
		}
		if bytes.ContainsFunc(whole, func(c rune) bool { return c != 0 }) {
			t.Error("an answer shares memory with its bytes")
		}
		third, _ := Decode(file)
		if !same(third, want) {
			t.Errorf("Decode hangs on what it answered earlier: %s", brief(third))
		}
	}
}

// textsOf tells all texts of a zone.
func textsOf(z api.Zone) []string {
	l := []string{z.Foot}
	for _, one := range z.Types {
		l = append(l, one.Abbr)
	}
	return l
}

// P20.4, W6: the names and the foot that are answered share memory neither with the bytes nor with those of another answer.
func TestTextsAreNewMemory(t *testing.T) {
	for _, z := range []api.Zone{york(), full(), old(), sized(9, 20)} {
		b := fileOf(z)
		first, _ := Decode(b)
		second, _ := Decode(b)
		all := unsafe.String(&b[0], len(b))
		for _, one := range textsOf(first) {
			if shares(one, all) {
				t.Errorf("%q is a piece of the bytes", one)
			}
			for _, other := range textsOf(second) {
				if shares(one, other) {
					t.Errorf("%q and %q share memory", one, other)
				}
			}
		}
	}
	if one := "EST5"; !shares(one[:3], one) {
		t.Error("what shares memory is not seen")
	}
}

// W5: nil lists and empty ones are the same; a zone without changes and leaps is read as one.
func TestNilAndEmpty(t *testing.T) {
	for v := 1; v <= 4; v++ {
		z := asVersion(utc(), v)
		empty := changed(z, func(z *api.Zone) { z.Trans, z.Leaps = []api.Trans{}, make([]api.Corr, 0, 5) })
		a, _ := Encode(z)
		b, ok := Encode(empty)
		if !bytes.Equal(a, b) || !ok {
			t.Errorf("%s and %s", short(a), short(b))
		}
		checkBoth(t, empty)
	}
	checkUnlaid(t, api.Zone{Types: []api.Type{}, Version: 2})
}

// answers tells what all calls answer, as a text.
func answers() string {
	var s strings.Builder
	for _, z := range append(smallZones(), wrongZones()...) {
		b, ok := Encode(z)
		s.WriteString(short(b) + strconv.FormatBool(ok))
		y, e := Decode(b)
		s.WriteString(brief(y) + strconv.Itoa(int(e)) + strconv.FormatBool(Right(b)))
		spoil(y)
		clear(b)
	}
	return s.String()
}

// W2, P20.4: nothing is kept from call to call.
func TestNothingIsKept(t *testing.T) {
	first := answers()
	for k, z := range someZones() {
		b, _ := Encode(z)
		Decode(b[:len(b)-k%2])
	}
	if second := answers(); first != second {
		t.Error("calls answer otherwise than earlier")
	}
}

// W2: calls at the same time, of the same things, do not touch each other.
func TestCallsAtTheSameTime(t *testing.T) {
	z := full()
	b := fileOf(z)
	var all sync.WaitGroup
	for range 16 {
		all.Go(func() {
			for range 100 {
				got, ok := Encode(z)
				if !bytes.Equal(got, b) || !ok {
					t.Errorf("%s, %t, at the same time as others", short(got), ok)
				}
				clear(got)
				y, e := Decode(b)
				if !same(y, z) || e != api.OK || !Right(b) {
					t.Errorf("%s, %d, at the same time as others", brief(y), e)
				}
				spoil(y)
			}
		})
	}
	all.Wait()
}

// W1: great files, and such as say that they are great, are told without a panic.
func TestGreatFiles(t *testing.T) {
	for v := 2; v <= 4; v++ {
		p := partsOf(asVersion(utc(), v))
		for _, s := range []string{"x", "\n", "\x00", "A"} {
			long := strings.Repeat(s, 1<<20)
			want := api.ErrRange
			if s == "\n" {
				want = api.ErrForm
			}
			checkWrong(t, p.with(func(p *parts) { p.tail = "\n" + long + "\n" }), want)
			checkWrong(t, p.with(func(p *parts) { p.tail = "\n" + long }), api.ErrForm)
			checkWrong(t, p.with(func(p *parts) { p.skip = long }), api.ErrForm)
			checkWrong(t, []byte(long), api.ErrForm)
		}
	}
}

// W1, P20.1 to P20.5: whatever bytes, against the slow way; and zones of any numbers.
func FuzzFiles(f *testing.F) {
	for _, z := range smallZones() {
		f.Add(fileOf(z), z.Version, 5, "EST5")
	}
	f.Add(fileOf(full()), 4, -1<<31, "")
	f.Add([]byte(nil), 1, most, "\n")
	f.Fuzz(func(t *testing.T, b []byte, version, n int, s string) {
		z, e := slowFile(b)
		checkDecode(t, b, z, e)
		if e == api.OK {
			checkBoth(t, z)
		}
		for _, change := range []func(z *api.Zone){
			func(z *api.Zone) { z.Version, z.Foot = version, s }, func(z *api.Zone) { z.Trans = append(z.Trans, api.Trans{At: n}) }, func(z *api.Zone) { z.Leaps = append(z.Leaps, api.Corr{At: n, Corr: 1}) }, func(z *api.Zone) { z.Types = append(z.Types, api.Type{Off: n, Abbr: s}) },
		} {
			y := changed(z, change)
			want, ok := slowEncode(y)
			checkEncode(t, y, want, ok)
		}
		if len(b) > 0 {
			checkTail(t, b, s)
		}
	})
}

// checkTail asks for a file whose end is another one.
func checkTail(t *testing.T, b []byte, s string) {
	t.Helper()
	for _, tail := range []string{s, "\n" + s, s + "\n", "\n" + s + "\n"} {
		all := append(slices.Clone(b[:len(b)-1]), tail...)
		z, e := slowFile(all)
		checkDecode(t, all, z, e)
	}
}
