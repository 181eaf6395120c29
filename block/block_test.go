package block

import (
	"bytes"
	"encoding/binary"
	"math/rand"
	"regexp"
	"slices"
	"strconv"
	"strings"
	"sync"
	"testing"
	"unsafe"

	"epact/api"
)

const (
	most  = api.MaxInt
	least = api.MinInt
)

// rightName is another way to tell whether a text is a name, by a pattern.
var rightName = regexp.MustCompile(`\A[A-Za-z0-9+-]{3,16}\z`)

// wrongNames are texts that are no names: too short, too long, with a byte that may not be.
func wrongNames() []string {
	return []string{
		"", "E", "ES", "+1", "--", "ABCDEFGHIJKLMNOPQ", strings.Repeat("A", 32), strings.Repeat("A", 256), strings.Repeat("A", 1<<16+3),
		"E T", " ES", "ES ", "E_T", "E.T", "<+03>", "E:T", "E@T", "E[T", "E`T", "E{T", "E/T", "E,T", "EST\n", "EST\x00", "\x00EST", "E\x00T", "\x00\x00\x00", "EST\x00EDT", "E\x7fT", "\u00c4ST", "ES\xff", "\xff\xff\xff", "\u212aST", "\u0130ST",
	}
}

// different is a zone whose numbers all differ from each other, at each byte that they have.
func different() api.Zone {
	return api.Zone{
		Types: []api.Type{{Off: 0x11121314, Abbr: "LMT"}, {Off: -0x21222324, Dst: true, Abbr: "+0530"}, {Off: 0x31323334, Abbr: "LMT"}, {Off: -1, Dst: true, Abbr: "abcdefghijklmn-9"}},
		Trans: []api.Trans{{At: 0x41424344, Type: 0x51}, {At: -0x61626364, Type: 0x71}, {At: 5, Type: 255}},
		Leaps: []api.Corr{{At: 0x71727374, Corr: 0x01020304}, {At: -0x05060708, Corr: -0x0a0b0c0d}},
		Foot:  "EST5EDT", Version: 3,
	}
}

// utc is the zone of the chapter's example.
func utc() api.Zone {
	return api.Zone{Types: []api.Type{{Abbr: "UTC"}}, Version: 2}
}

// sized tells a zone with so many of each, whose names are all alike.
func sized(types, trans, leaps int) api.Zone {
	z := api.Zone{Types: make([]api.Type, types), Trans: make([]api.Trans, trans), Leaps: make([]api.Corr, leaps), Version: 4}
	for k := range z.Types {
		z.Types[k] = api.Type{Off: k * 900, Dst: k%2 == 1, Abbr: "EST"}
	}
	for k := range z.Trans {
		z.Trans[k] = api.Trans{At: 1<<30 - 7*k, Type: k % 256}
	}
	for k := range z.Leaps {
		z.Leaps[k] = api.Corr{At: 78796800 + 5*k, Corr: k - 100}
	}
	return z
}

// named tells a zone whose kinds have these names.
func named(names ...string) api.Zone {
	z := utc()
	z.Types = nil
	for _, s := range names {
		z.Types = append(z.Types, api.Type{Abbr: s})
	}
	return z
}

// copied tells z in new memory.
func copied(z api.Zone) api.Zone {
	z.Types, z.Trans, z.Leaps = slices.Clone(z.Types), slices.Clone(z.Trans), slices.Clone(z.Leaps)
	return z
}

// changed tells a copy of z that is changed.
func changed(z api.Zone, change func(z *api.Zone)) api.Zone {
	y := copied(z)
	change(&y)
	return y
}

func same(a, b api.Zone) bool {
	return slices.Equal(a.Types, b.Types) && slices.Equal(a.Trans, b.Trans) && slices.Equal(a.Leaps, b.Leaps) && a.Foot == b.Foot && a.Version == b.Version
}

// slowPool is another way to a pool, and to where each name begins.
func slowPool(z api.Zone) (string, []int, bool) {
	pool, begins := "", []int{}
	for k, one := range z.Types {
		if !rightName.MatchString(one.Abbr) {
			return "", nil, false
		}
		first := slices.IndexFunc(z.Types, func(x api.Type) bool { return x.Abbr == one.Abbr })
		if first < k {
			begins = append(begins, begins[first])
			continue
		}
		begins = append(begins, len(pool))
		pool += one.Abbr + "\x00"
	}
	return pool, begins, len(pool) <= 256
}

// slowRight is another way to tell whether a head is right.
func slowRight(h api.Head) bool {
	if h.Ut != 0 && h.Ut != h.Type || h.Std != 0 && h.Std != h.Type {
		return false
	}
	return h.Version > 0 && h.Version < 5 && h.Leap >= 0 && h.Leap < 202 && h.Time >= 0 && h.Time < 2001 && h.Type > 0 && h.Type < 65 && h.Char > 0 && h.Char < 257
}

// slowCount is another way to the head of a zone.
func slowCount(z api.Zone) (api.Head, bool) {
	pool, _, ok := slowPool(z)
	h := api.Head{Version: z.Version, Leap: len(z.Leaps), Time: len(z.Trans), Type: len(z.Types), Char: len(pool)}
	if !ok || !slowRight(h) {
		return api.Head{}, false
	}
	return h, true
}

// slowLaid tells the bytes of n, of which the lowest ones count, and whether they say n.
func slowLaid(n, size int) ([]byte, bool) {
	all := binary.BigEndian.AppendUint64(nil, uint64(n))
	b := all[8-size:]
	return b, slowNumber(b) == n
}

// slowNumber tells the number whose bytes these are.
func slowNumber(b []byte) int {
	switch len(b) {
	case 1:
		return int(b[0])
	case 4:
		return int(int32(binary.BigEndian.Uint32(b)))
	}
	return int(int64(binary.BigEndian.Uint64(b)))
}

// row is a kind of local time as it is laid.
type row struct {
	off        int
	dst, place byte
}

// raw lays data of any numbers, of which the lowest bytes count.
func raw(size int, trans []api.Trans, rows []row, pool string, leaps []api.Corr, behind ...byte) []byte {
	var b []byte
	lay := func(n, size int) {
		x, _ := slowLaid(n, size)
		b = append(b, x...)
	}
	for _, x := range trans {
		lay(x.At, size)
	}
	for _, x := range trans {
		lay(x.Type, 1)
	}
	for _, x := range rows {
		lay(x.off, 4)
		b = append(b, x.dst, x.place)
	}
	b = append(b, pool...)
	for _, x := range leaps {
		lay(x.At, size)
		lay(x.Corr, 4)
	}
	return append(b, behind...)
}

// slowFits tells whether each number of z may be laid.
func slowFits(z api.Zone, size int) bool {
	fits := func(n, size int) bool {
		_, ok := slowLaid(n, size)
		return ok
	}
	for _, x := range z.Trans {
		if !fits(x.At, size) || !fits(x.Type, 1) {
			return false
		}
	}
	for _, x := range z.Leaps {
		if !fits(x.At, size) || !fits(x.Corr, 4) {
			return false
		}
	}
	return !slices.ContainsFunc(z.Types, func(x api.Type) bool { return !fits(x.Off, 4) })
}

// slowEncode is another way to the data of a zone.
func slowEncode(z api.Zone, size int) ([]byte, bool) {
	if _, ok := slowCount(z); !ok || size != 4 && size != 8 || !slowFits(z, size) {
		return nil, false
	}
	pool, begins, _ := slowPool(z)
	var rows []row
	for k, x := range z.Types {
		one := row{off: x.Off, place: byte(begins[k])}
		if x.Dst {
			one.dst = 1
		}
		rows = append(rows, one)
	}
	return raw(size, z.Trans, rows, pool, z.Leaps), true
}

// slowAt is another way to a name in a pool, byte by byte.
func slowAt(pool string, at int) (string, bool) {
	for to := at; at >= 0 && to < len(pool); to++ {
		if pool[to] == 0 {
			return pool[at:to], rightName.MatchString(pool[at:to])
		}
	}
	return "", false
}

// slowDecode is another way to a zone: each part is sought where it stands.
func slowDecode(h api.Head, b []byte, size int) (api.Zone, bool) {
	if !slowRight(h) || size != 4 && size != 8 {
		return api.Zone{}, false
	}
	kinds := h.Time * size
	rows := kinds + h.Time
	pool := rows + 6*h.Type
	leaps := pool + h.Char
	std := leaps + h.Leap*(size+4)
	ut := std + h.Std
	if len(b) != ut+h.Ut {
		return api.Zone{}, false
	}
	z := api.Zone{Version: h.Version}
	for k := range h.Time {
		z.Trans = append(z.Trans, api.Trans{At: slowNumber(b[k*size : (k+1)*size]), Type: int(b[kinds+k])})
	}
	for k := range h.Type {
		x := b[rows+6*k : rows+6*k+6]
		name, ok := slowAt(string(b[pool:leaps]), int(x[5]))
		if !ok || x[4] > 1 {
			return api.Zone{}, false
		}
		z.Types = append(z.Types, api.Type{Off: slowNumber(x[:4]), Dst: x[4] == 1, Abbr: name})
	}
	for k := range h.Leap {
		x := b[leaps+k*(size+4):]
		z.Leaps = append(z.Leaps, api.Corr{At: slowNumber(x[:size]), Corr: slowNumber(x[size : size+4])})
	}
	if !slowMarks(h, b[std:ut], b[ut:]) {
		return api.Zone{}, false
	}
	return z, true
}

// slowMarks is another way to tell whether the bytes of Std and of Ut may be.
func slowMarks(h api.Head, std, ut []byte) bool {
	if h.Std == 0 {
		std = make([]byte, h.Type)
	}
	if h.Ut == 0 {
		ut = make([]byte, h.Type)
	}
	for k := range h.Type {
		switch [2]byte{std[k], ut[k]} {
		case [2]byte{0, 0}, [2]byte{1, 0}, [2]byte{1, 1}:
		default:
			return false
		}
	}
	return true
}

func checkCount(t *testing.T, z api.Zone, want api.Head, ok bool) {
	t.Helper()
	had := copied(z)
	if h, is := Count(z); h != want || is != ok {
		t.Errorf("Count(%s): %+v, %t; want %+v, %t", brief(z), h, is, want, ok)
	}
	if !same(z, had) {
		t.Errorf("Count(%s) changed it to %s", brief(had), brief(z))
	}
}

func checkEncode(t *testing.T, z api.Zone, size int, want []byte, ok bool) {
	t.Helper()
	had := copied(z)
	if b, is := Encode(z, size); !bytes.Equal(b, want) || is != ok {
		t.Errorf("Encode(%s, %d): % .300x, %t; want % .300x, %t", brief(z), size, b, is, want, ok)
	}
	if !same(z, had) {
		t.Errorf("Encode(%s) changed it to %s", brief(had), brief(z))
	}
}

func checkDecode(t *testing.T, h api.Head, b []byte, size int, want api.Zone, ok bool) {
	t.Helper()
	had := slices.Clone(b)
	if z, is := Decode(h, b, size); !same(z, want) || is != ok {
		t.Errorf("Decode(%+v, % .300x, %d): %s, %t; want %s, %t", h, b, size, brief(z), is, brief(want), ok)
	}
	if !bytes.Equal(b, had) {
		t.Errorf("Decode changed % .300x to % .300x", had, b)
	}
}

// checkNone asks for the zone of bytes that have none.
func checkNone(t *testing.T, h api.Head, b []byte, size int) {
	t.Helper()
	checkDecode(t, h, b, size, api.Zone{}, false)
}

// brief tells the most that is to be seen of a zone in a line.
func brief(z api.Zone) string {
	s := "version " + strconv.Itoa(z.Version) + ", foot " + strconv.Quote(z.Foot)
	s += ", types " + strconv.Itoa(len(z.Types))
	for _, x := range z.Types[:min(4, len(z.Types))] {
		s += " " + strconv.Quote(x.Abbr[:min(20, len(x.Abbr))]) + " " + strconv.Itoa(x.Off) + " " + strconv.FormatBool(x.Dst)
	}
	s += ", changes " + strconv.Itoa(len(z.Trans))
	for _, x := range z.Trans[:min(4, len(z.Trans))] {
		s += " " + strconv.Itoa(x.At) + " " + strconv.Itoa(x.Type)
	}
	s += ", leaps " + strconv.Itoa(len(z.Leaps))
	for _, x := range z.Leaps[:min(4, len(z.Leaps))] {
		s += " " + strconv.Itoa(x.At) + " " + strconv.Itoa(x.Corr)
	}
	return s
}

// checkEither asks all of a zone, right or not, against the slow ways.
func checkEither(t *testing.T, z api.Zone) {
	t.Helper()
	h, ok := slowCount(z)
	checkCount(t, z, h, ok)
	for _, size := range []int{4, 8} {
		b, fits := slowEncode(z, size)
		checkEncode(t, z, size, b, fits)
		if fits {
			checkRead(t, h, b, size, z)
		}
	}
	for _, size := range []int{0, 1, 5} {
		checkEncode(t, z, size, nil, false)
	}
}

// checkRead asks that what was laid of z is read as it was, but for the Foot, and that a byte more or less is none.
func checkRead(t *testing.T, h api.Head, b []byte, size int, z api.Zone) {
	t.Helper()
	want := z
	want.Foot = ""
	checkDecode(t, h, b, size, want, true)
	checkNone(t, h, append(slices.Clone(b), 0), size)
	checkNone(t, h, b[:len(b)-1], size)
}

// checkWrong asks all of a zone that has no head.
func checkWrong(t *testing.T, z api.Zone) {
	t.Helper()
	checkCount(t, z, api.Head{}, false)
	for _, size := range []int{0, 4, 8} {
		checkEncode(t, z, size, nil, false)
	}
}

// P16.1, P16.2, P16.3: the chapter's example.
func TestExample(t *testing.T) {
	checkCount(t, utc(), api.Head{Version: 2, Type: 1, Char: 4}, true)
	for _, size := range []int{4, 8} {
		checkEncode(t, utc(), size, []byte("\x00\x00\x00\x00\x00\x00UTC\x00"), true)
		checkDecode(t, api.Head{Version: 2, Type: 1, Char: 4}, []byte("\x00\x00\x00\x00\x00\x00UTC\x00"), size, utc(), true)
	}
}

// P16.1: heads written out.
func TestCountByHand(t *testing.T) {
	checkCount(t, different(), api.Head{Version: 3, Leap: 2, Time: 3, Type: 4, Char: 4 + 6 + 17}, true)
	checkCount(t, named("EST", "EDT", "EST"), api.Head{Version: 2, Type: 3, Char: 8}, true)
	checkCount(t, named("EST", "ESTX", "XEST", "EST"), api.Head{Version: 2, Type: 4, Char: 14}, true)
	checkCount(t, named("EST", "est", "Est"), api.Head{Version: 2, Type: 3, Char: 12}, true)
	checkCount(t, named("+03", "-03", "003", "ABCDEFGHIJKLMNOP"), api.Head{Version: 2, Type: 4, Char: 29}, true)
	checkCount(t, sized(5, 6, 7), api.Head{Version: 4, Leap: 7, Time: 6, Type: 5, Char: 4}, true)
	checkCount(t, sized(64, 2000, 201), api.Head{Version: 4, Leap: 201, Time: 2000, Type: 64, Char: 4}, true)
	checkWrong(t, api.Zone{})
	checkWrong(t, api.Zone{Version: 2})
	checkWrong(t, api.Zone{Types: []api.Type{{Abbr: "UTC"}}})
	checkWrong(t, api.Zone{Types: []api.Type{{}}, Version: 2})
	checkWrong(t, api.Zone{Trans: make([]api.Trans, 1), Leaps: make([]api.Corr, 1), Version: 2})
}

// P16.1, P16.2: each list at its edges and one beyond, alone and with the others at theirs.
func TestEachCountAtItsEdges(t *testing.T) {
	for _, x := range []struct {
		of    func(n int) api.Zone
		right []int
		wrong []int
	}{
		{func(n int) api.Zone { return sized(n, 3, 2) }, []int{1, 2, 63, 64}, []int{0, 65, 66, 128, 256, 257, 320, 65537}},
		{func(n int) api.Zone { return sized(n, 0, 0) }, []int{1, 64}, []int{0, 65, 257}},
		{func(n int) api.Zone { return sized(n, 2000, 201) }, []int{1, 64}, []int{0, 65, 257}},
		{func(n int) api.Zone { return sized(2, n, 3) }, []int{0, 1, 2, 255, 256, 257, 1999, 2000}, []int{2001, 2002, 4096, 65536, 65537}},
		{func(n int) api.Zone { return sized(1, n, 0) }, []int{0, 1, 2000}, []int{2001, 65536}},
		{func(n int) api.Zone { return sized(64, n, 201) }, []int{0, 1, 2000}, []int{2001, 65536}},
		{func(n int) api.Zone { return sized(2, 3, n) }, []int{0, 1, 2, 199, 200, 201}, []int{202, 203, 256, 257, 65536, 65537}},
		{func(n int) api.Zone { return sized(1, 0, n) }, []int{0, 1, 200, 201}, []int{202, 256, 65536}},
		{func(n int) api.Zone { return sized(64, 2000, n) }, []int{0, 1, 200, 201}, []int{202, 256, 65536}},
	} {
		for _, n := range x.right {
			z := x.of(n)
			checkCount(t, z, api.Head{Version: 4, Leap: len(z.Leaps), Time: len(z.Trans), Type: len(z.Types), Char: 4}, true)
			checkEither(t, z)
		}
		for _, n := range x.wrong {
			checkWrong(t, x.of(n))
		}
	}
}

// P16.1, P16.2: each version.
func TestEachVersion(t *testing.T) {
	for _, base := range []api.Zone{utc(), different(), sized(64, 2000, 201)} {
		h, _ := slowCount(base)
		for v := 1; v <= 4; v++ {
			base.Version, h.Version = v, v
			checkCount(t, base, h, true)
			checkEither(t, base)
		}
		for _, v := range []int{0, 5, 6, -1, -2, 48, 49, 50, 51, 52, 1<<8 + 2, 1<<32 + 2, -1<<32 + 2, least, least + 2, most, most - 1} {
			base.Version = v
			checkWrong(t, base)
		}
	}
}

// P16.1, P16.2: a name that is not right, at each place.
func TestWrongNames(t *testing.T) {
	for _, s := range wrongNames() {
		checkWrong(t, named(s))
		for k := range 3 {
			l := []string{"EST", "EDT", "EST"}
			l[k] = s
			checkWrong(t, named(l...))
		}
		checkWrong(t, changed(different(), func(z *api.Zone) { z.Types[3].Abbr = s }))
		checkWrong(t, changed(sized(64, 1, 1), func(z *api.Zone) { z.Types[63].Abbr = s }))
	}
}

// filling tells different names that fill so many bytes of a pool, from 4 on, the last one with what is left.
func filling(n int) []string {
	var l []string
	for n >= 4+17 {
		l = append(l, "ABCDEFGHIJKLMN"+strconv.Itoa(len(l)+10))
		n -= 17
	}
	if n > 17 {
		l = append(l, "abc")
		n -= 4
	}
	return append(l, strings.Repeat("z", n-1))
}

// P16.1, P16.2: pools of 256 bytes, of fewer and of more.
func TestGreatPools(t *testing.T) {
	for n := 4; n <= 600; n++ {
		z := named(filling(n)...)
		if n <= 256 {
			checkCount(t, z, api.Head{Version: 2, Type: len(z.Types), Char: n}, true)
			checkEither(t, z)
		} else {
			checkWrong(t, z)
		}
	}
}

// P16.1, P16.2: sixty-four names of three bytes fill a pool; names that are alike stand in it once.
func TestPoolsOfManyNames(t *testing.T) {
	var l []string
	for k := range 64 {
		l = append(l, "A"+strconv.Itoa(k+10))
	}
	full := named(l...)
	checkCount(t, full, api.Head{Version: 2, Type: 64, Char: 256}, true)
	checkEither(t, full)
	if b, _ := Encode(full, 4); len(b) != 64*6+256 || b[63*6+5] != 252 {
		t.Errorf("% x", b)
	}
	for k := range l {
		checkWrong(t, changed(full, func(z *api.Zone) { z.Types[k].Abbr += "x" }))
		other := (k + 1) % 64
		alike := changed(full, func(z *api.Zone) { z.Types[k].Abbr = z.Types[other].Abbr })
		checkCount(t, alike, api.Head{Version: 2, Type: 64, Char: 252}, true)
		checkEither(t, alike)
	}
	for _, s := range []string{"EST", "ABCDEFGHIJKLMNOP"} {
		alike := named(slices.Repeat([]string{s}, 64)...)
		checkCount(t, alike, api.Head{Version: 2, Type: 64, Char: len(s) + 1}, true)
		checkEither(t, alike)
	}
	fill := filling(256)
	checkEither(t, named(slices.Concat(fill, fill, fill)...))
	checkWrong(t, named(append(fill, "new")...))
}

// P16.1: what is neither counted nor a name or a version says nothing.
func TestCountHangsOnNothingElse(t *testing.T) {
	z := different()
	want, _ := Count(z)
	for _, n := range []int{least, -1, 0, 1, 256, 1 << 31, 1 << 32, most} {
		for k, change := range []func(z *api.Zone){
			func(z *api.Zone) { z.Types[1].Off = n }, func(z *api.Zone) { z.Trans[1].At = n }, func(z *api.Zone) { z.Trans[1].Type = n }, func(z *api.Zone) { z.Leaps[1].At = n }, func(z *api.Zone) { z.Leaps[1].Corr = n },
			func(z *api.Zone) { z.Foot = strings.Repeat("\n", n&0xffff) }, func(z *api.Zone) { z.Types[0].Dst = n > 0 },
		} {
			if h, ok := Count(changed(z, change)); h != want || !ok {
				t.Errorf("%d, %d: %+v, %t", k, n, h, ok)
			}
		}
	}
}

// P16.2, P16.3: the data of zones at both sizes, written out.
func TestDataByHand(t *testing.T) {
	head := api.Head{Version: 3, Leap: 2, Time: 3, Type: 4, Char: 27}
	kinds := "\x51\x71\xff" +
		"\x11\x12\x13\x14\x00\x00" + "\xde\xdd\xdc\xdc\x01\x04" + "\x31\x32\x33\x34\x00\x00" + "\xff\xff\xff\xff\x01\x0a" +
		"LMT\x00+0530\x00abcdefghijklmn-9\x00"
	want := different()
	want.Foot = ""
	for size, data := range map[int]string{
		4: "\x41\x42\x43\x44" + "\x9e\x9d\x9c\x9c" + "\x00\x00\x00\x05" + kinds +
			"\x71\x72\x73\x74\x01\x02\x03\x04" + "\xfa\xf9\xf8\xf8\xf5\xf4\xf3\xf3",
		8: "\x00\x00\x00\x00\x41\x42\x43\x44" + "\xff\xff\xff\xff\x9e\x9d\x9c\x9c" + "\x00\x00\x00\x00\x00\x00\x00\x05" + kinds +
			"\x00\x00\x00\x00\x71\x72\x73\x74\x01\x02\x03\x04" + "\xff\xff\xff\xff\xfa\xf9\xf8\xf8\xf5\xf4\xf3\xf3",
	} {
		checkEncode(t, different(), size, []byte(data), true)
		checkDecode(t, head, []byte(data), size, want, true)
		checkNone(t, head, []byte(data), 12-size)
	}
	great := changed(different(), func(z *api.Zone) {
		z.Trans[0].At, z.Leaps[1].At = 0x0102030405060708, -0x1112131415161718
	})
	data := "\x01\x02\x03\x04\x05\x06\x07\x08" + "\xff\xff\xff\xff\x9e\x9d\x9c\x9c" + "\x00\x00\x00\x00\x00\x00\x00\x05" + kinds +
		"\x00\x00\x00\x00\x71\x72\x73\x74\x01\x02\x03\x04" + "\xee\xed\xec\xeb\xea\xe9\xe8\xe8\xf5\xf4\xf3\xf3"
	checkEncode(t, great, 4, nil, false)
	checkEncode(t, great, 8, []byte(data), true)
	great.Foot = ""
	checkDecode(t, head, []byte(data), 8, great, true)
}

// P16.2: zones of which one part alone has something, written out.
func TestEachPartByHand(t *testing.T) {
	name := "\x00\x00\x00\x00\x00\x00UTC\x00"
	for _, x := range []struct {
		z            api.Zone
		small, great string
	}{
		{changed(utc(), func(z *api.Zone) { z.Trans = []api.Trans{{At: 1, Type: 2}} }), "\x00\x00\x00\x01\x02" + name, "\x00\x00\x00\x00\x00\x00\x00\x01\x02" + name},
		{changed(utc(), func(z *api.Zone) { z.Leaps = []api.Corr{{At: 1, Corr: 2}} }), name + "\x00\x00\x00\x01\x00\x00\x00\x02", name + "\x00\x00\x00\x00\x00\x00\x00\x01\x00\x00\x00\x02"},
		{changed(utc(), func(z *api.Zone) { z.Types[0].Off = -2 }), "\xff\xff\xff\xfe\x00\x00UTC\x00", "\xff\xff\xff\xfe\x00\x00UTC\x00"},
		{changed(utc(), func(z *api.Zone) { z.Types[0].Dst = true }), "\x00\x00\x00\x00\x01\x00UTC\x00", "\x00\x00\x00\x00\x01\x00UTC\x00"},
		{changed(utc(), func(z *api.Zone) { z.Foot = "UTC0" }), name, name},
		{named("UTC", "GMT", "UTC"), "\x00\x00\x00\x00\x00\x00" + "\x00\x00\x00\x00\x00\x04" + "\x00\x00\x00\x00\x00\x00" + "UTC\x00GMT\x00", "\x00\x00\x00\x00\x00\x00" + "\x00\x00\x00\x00\x00\x04" + "\x00\x00\x00\x00\x00\x00" + "UTC\x00GMT\x00"},
	} {
		for v := 1; v <= 4; v++ {
			x.z.Version = v
			checkEncode(t, x.z, 4, []byte(x.small), true)
			checkEncode(t, x.z, 8, []byte(x.great), true)
			checkEither(t, x.z)
		}
	}
}

// otherSizes are sizes that times have not.
func otherSizes() []int {
	return []int{0, 1, 2, 3, 5, 6, 7, 9, 10, 12, 16, 32, 64, -1, -2, -4, -8, 4 + 1<<8, 8 + 1<<8, 4 + 1<<32, 8 + 1<<32, 4 - 1<<32, 8 - 1<<32, least, least + 4, least + 8, most, most - 3, most - 7}
}

// P16.2, P16.3: other sizes, also where no time is to be laid or read.
func TestOtherSizes(t *testing.T) {
	for _, z := range []api.Zone{utc(), different(), named("EST", "EDT"), sized(64, 2000, 201), {}} {
		for _, size := range otherSizes() {
			checkEncode(t, z, size, nil, false)
			h, _ := Count(z)
			for _, laid := range []int{4, 8} {
				b, _ := Encode(z, laid)
				checkNone(t, h, b, size)
			}
			checkNone(t, h, nil, size)
		}
	}
	// As many bytes as a time of that size would make.
	for _, size := range []int{0, 1, 2, 3, 5, 6, 7, 9, 16} {
		b := slices.Concat(make([]byte, size+1), []byte("\x00\x00\x00\x00\x00\x00UTC\x00"))
		checkNone(t, api.Head{Version: 2, Time: 1, Type: 1, Char: 4}, b, size)
	}
}

// numbers are those of a zone that are laid: how each is set, and how many bytes it has (0: as many as a time).
func numbers() []struct {
	set  func(z *api.Zone, n int)
	size int
} {
	return []struct {
		set  func(z *api.Zone, n int)
		size int
	}{
		{func(z *api.Zone, n int) { z.Trans[0].At = n }, 0}, {func(z *api.Zone, n int) { z.Trans[1].At = n }, 0}, {func(z *api.Zone, n int) { z.Trans[2].At = n }, 0},
		{func(z *api.Zone, n int) { z.Leaps[0].At = n }, 0}, {func(z *api.Zone, n int) { z.Leaps[1].At = n }, 0},
		{func(z *api.Zone, n int) { z.Trans[0].Type = n }, 1}, {func(z *api.Zone, n int) { z.Trans[1].Type = n }, 1}, {func(z *api.Zone, n int) { z.Trans[2].Type = n }, 1},
		{func(z *api.Zone, n int) { z.Types[0].Off = n }, 4}, {func(z *api.Zone, n int) { z.Types[1].Off = n }, 4}, {func(z *api.Zone, n int) { z.Types[3].Off = n }, 4},
		{func(z *api.Zone, n int) { z.Leaps[0].Corr = n }, 4}, {func(z *api.Zone, n int) { z.Leaps[1].Corr = n }, 4},
	}
}

// P16.2, P16.5: each number at both ends of what may be laid, one beyond, and far beyond.
func TestEachNumberAtItsEdges(t *testing.T) {
	edges := map[int][2]int{1: {0, 255}, 4: {-1 << 31, 1<<31 - 1}, 8: {least, most}}
	far := []int{least, least + 1, -1<<62 + 1, -1<<32 - 1, -1 << 32, -1<<32 + 1, -1<<31 - 1, -1 << 31, -257, -256, -255, -1, 0, 1, 255, 256, 257, 1 << 16, 1<<31 - 1, 1 << 31, 1<<31 + 1, 1<<32 - 1, 1 << 32, 1<<32 + 1, 1 << 62, most - 1, most}
	for which, x := range numbers() {
		for _, size := range []int{4, 8} {
			edge := edges[max(x.size, 1)]
			if x.size == 0 {
				edge = edges[size]
			}
			fits := []int{edge[0], edge[0] + 1, edge[1] - 1, edge[1]}
			var beyond []int
			for _, n := range far {
				if n < edge[0] || n > edge[1] {
					beyond = append(beyond, n)
				} else {
					fits = append(fits, n)
				}
			}
			for _, n := range fits {
				z := changed(different(), func(z *api.Zone) { x.set(z, n) })
				b, ok := Encode(z, size)
				if len(b) != len(raw(size, z.Trans, make([]row, 4), strings.Repeat("x", 27), z.Leaps)) || !ok {
					t.Errorf("the number %d at %d, size %d: % x, %t", which, n, size, b, ok)
				}
				checkEither(t, z)
			}
			for _, n := range beyond {
				checkEncode(t, changed(different(), func(z *api.Zone) { x.set(z, n) }), size, nil, false)
			}
		}
	}
}

// P16.2: each kind of a change from below 0 to beyond a byte; a kind that the zone has not may be laid, and read.
func TestEachKindOfAChange(t *testing.T) {
	for n := -300; n <= 600; n++ {
		z := changed(utc(), func(z *api.Zone) { z.Trans = []api.Trans{{At: 7, Type: n}} })
		for _, size := range []int{4, 8} {
			var want []byte
			if n >= 0 && n <= 255 {
				want = slices.Concat(make([]byte, size-1), []byte{7, byte(n)}, []byte("\x00\x00\x00\x00\x00\x00UTC\x00"))
				checkDecode(t, api.Head{Version: 2, Time: 1, Type: 1, Char: 4}, want, size, z, true)
			}
			checkEncode(t, z, size, want, want != nil)
		}
	}
}

// P16.2: the last of many numbers has no room.
func TestTheLastNumberHasNoRoom(t *testing.T) {
	z := sized(64, 2000, 201)
	for k, change := range []func(z *api.Zone){
		func(z *api.Zone) { z.Trans[1999].Type = 256 }, func(z *api.Zone) { z.Trans[1999].Type = -1 }, func(z *api.Zone) { z.Types[63].Off = 1 << 31 }, func(z *api.Zone) { z.Types[63].Off = -1<<31 - 1 }, func(z *api.Zone) { z.Leaps[200].Corr = 1 << 31 }, func(z *api.Zone) { z.Leaps[200].Corr = -1<<31 - 1 },
		func(z *api.Zone) { z.Trans[1999].At = 1 << 31 }, func(z *api.Zone) { z.Trans[0].At = -1<<31 - 1 }, func(z *api.Zone) { z.Leaps[200].At = 1 << 31 }, func(z *api.Zone) { z.Leaps[0].At = -1<<31 - 1 },
	} {
		y := changed(z, change)
		checkEncode(t, y, 4, nil, false)
		want, ok := slowEncode(y, 8)
		if ok != (k >= 6) {
			t.Errorf("%d: %t", k, ok)
		}
		checkEncode(t, y, 8, want, ok)
	}
}

// P16.3: each count of bytes but the right one.
func TestDecodeOfOtherCountsOfBytes(t *testing.T) {
	for _, z := range []api.Zone{utc(), different(), named("EST", "EDT")} {
		h, _ := Count(z)
		for _, size := range []int{4, 8} {
			b, _ := Encode(z, size)
			room := append(slices.Clone(b), make([]byte, 100)...)
			for n := range room {
				if n != len(b) {
					checkNone(t, h, room[:n], size)
				}
			}
			checkNone(t, h, nil, size)
			checkNone(t, h, []byte{}, size)
			checkNone(t, h, slices.Concat(b, b), size)
			checkNone(t, h, make([]byte, 1<<20), size)
		}
	}
}

// P16.3: the head tells how the bytes are parted: with one more or less of each it's none, or another zone.
func TestDecodeBehindOtherHeads(t *testing.T) {
	for _, z := range []api.Zone{different(), sized(3, 4, 5), named("EST", "EDT", "LMT")} {
		h, _ := Count(z)
		for _, size := range []int{4, 8} {
			b, _ := Encode(z, size)
			for leap := range 4 {
				for times := range 5 {
					for types := range 6 {
						for char := -10; char <= 10; char++ {
							other := api.Head{Version: h.Version, Leap: h.Leap + leap - 2, Time: h.Time + times - 2, Type: h.Type + types - 3, Char: h.Char + char}
							want, ok := slowDecode(other, b, size)
							checkDecode(t, other, b, size, want, ok)
						}
					}
				}
			}
		}
	}
}

// P16.3: heads that are not right, with as many bytes as they would say, and with others.
func TestDecodeBehindWrongHeads(t *testing.T) {
	for _, z := range []api.Zone{utc(), different()} {
		right, _ := Count(z)
		b, _ := Encode(z, 8)
		for _, change := range []func(h *api.Head, n int){
			func(h *api.Head, n int) { h.Version = n }, func(h *api.Head, n int) { h.Ut = n }, func(h *api.Head, n int) { h.Std = n }, func(h *api.Head, n int) { h.Leap = n }, func(h *api.Head, n int) { h.Time = n }, func(h *api.Head, n int) { h.Type = n }, func(h *api.Head, n int) { h.Char = n },
			func(h *api.Head, n int) { h.Ut, h.Std = n, n }, func(h *api.Head, n int) { *h = api.Head{Version: n, Ut: n, Std: n, Leap: n, Time: n, Type: n, Char: n} },
		} {
			for _, n := range []int{least, least + 2, -1 << 32, -1 << 31, -256, -65, -4, -2, -1, 0, 5, 6, 65, 66, 202, 257, 2001, 2002, 1 << 16, 1<<31 - 1, 1 << 31, 1 << 32, 1<<32 + 1, most - 1, most} {
				h := right
				change(&h, n)
				if slowRight(h) {
					continue
				}
				for _, size := range append(otherSizes(), 4, 8) {
					checkNone(t, h, b, size)
					checkNone(t, h, nil, size)
				}
			}
		}
	}
	checkNone(t, api.Head{}, nil, 4)
	checkNone(t, api.Head{}, nil, 8)
	checkNone(t, api.Head{Version: 2}, nil, 8)
	checkNone(t, api.Head{Char: 4, Type: 1}, []byte("\x00\x00\x00\x00\x00\x00UTC\x00"), 8)
	checkNone(t, api.Head{Version: 5, Char: 4, Type: 1}, []byte("\x00\x00\x00\x00\x00\x00UTC\x00"), 8)
	// Neither a head without types nor one without a pool is right, whatever else there is.
	checkNone(t, api.Head{Version: 2, Char: 4}, []byte("UTC\x00"), 8)
	checkNone(t, api.Head{Version: 2, Type: 1}, make([]byte, 6), 8)
	// Marks of more or fewer kinds than there are.
	two := raw(8, nil, make([]row, 2), "UTC\x00", nil)
	for n := range 5 {
		for _, h := range []api.Head{{Version: 2, Type: 2, Char: 4, Std: n}, {Version: 2, Type: 2, Char: 4, Ut: n}} {
			b := append(slices.Clone(two), make([]byte, n)...)
			if n == 0 || n == 2 {
				checkDecode(t, h, b, 8, named("UTC", "UTC"), true)
			} else {
				checkNone(t, h, b, 8)
			}
		}
	}
	// What would be one beyond each count, laid whole.
	for _, z := range []api.Zone{sized(65, 0, 0), sized(1, 2001, 0), sized(1, 0, 202)} {
		rows := make([]row, len(z.Types))
		h := api.Head{Version: 4, Leap: len(z.Leaps), Time: len(z.Trans), Type: len(z.Types), Char: 4}
		for _, size := range []int{4, 8} {
			checkNone(t, h, raw(size, z.Trans, rows, "EST\x00", z.Leaps), size)
		}
	}
	checkNone(t, api.Head{Version: 2, Type: 1, Char: 257}, raw(8, nil, make([]row, 1), "EST\x00"+strings.Repeat("x", 253), nil), 8)
}

// P16.3: each byte for Dst, at each place.
func TestEachByteForDst(t *testing.T) {
	pool := "EST\x00EDT\x00"
	for n := 1; n <= 4; n++ {
		for k := range n {
			for c := range 256 {
				rows := make([]row, n)
				rows[k].dst = byte(c)
				want := named(slices.Repeat([]string{"EST"}, n)...)
				want.Types[k].Dst = c == 1
				h := api.Head{Version: 2, Type: n, Char: 8}
				if b := raw(4, nil, rows, pool, nil); c <= 1 {
					checkDecode(t, h, b, 4, want, true)
				} else {
					checkNone(t, h, b, 4)
				}
			}
		}
	}
	rows := slices.Repeat([]row{{dst: 1}}, 64)
	z := sized(64, 0, 0)
	for k := range z.Types {
		z.Types[k].Off, z.Types[k].Dst = 0, true
	}
	checkDecode(t, api.Head{Version: 4, Type: 64, Char: 8}, raw(8, nil, rows, pool, nil), 8, z, true)
}

// marks tells all rows of so many bytes from 0 to 2.
func marks(n int) [][]byte {
	if n == 0 {
		return [][]byte{{}}
	}
	var all [][]byte
	for _, ahead := range marks(n - 1) {
		for c := range byte(3) {
			all = append(all, append(slices.Clone(ahead), c))
		}
	}
	return all
}

// P16.3: all marks of one to three kinds, of Std and Ut together, of either alone.
func TestAllMarks(t *testing.T) {
	for n := 1; n <= 3; n++ {
		rows := make([]row, n)
		for k := range rows {
			rows[k] = row{off: k - 1, dst: byte(k % 2), place: byte(k % 2 * 4)}
		}
		for _, size := range []int{4, 8} {
			laid := raw(size, []api.Trans{{At: 9, Type: 1}}, rows, "EST\x00EDT\x00", []api.Corr{{At: 3, Corr: 4}})
			h := api.Head{Version: 2, Leap: 1, Time: 1, Type: n, Char: 8}
			plain, ok := Decode(h, laid, size)
			if !ok || len(plain.Types) != n {
				t.Fatalf("%d: %s, %t", n, brief(plain), ok)
			}
			check := func(std, ut []byte) {
				t.Helper()
				h.Std, h.Ut = len(std), len(ut)
				want := plain
				may := slowMarks(h, std, ut)
				if !may {
					want = api.Zone{}
				}
				checkDecode(t, h, slices.Concat(laid, std, ut), size, want, may)
			}
			for _, std := range marks(n) {
				check(std, nil)
				check(nil, std)
				for _, ut := range marks(n) {
					check(std, ut)
				}
			}
		}
	}
}

// P16.3: written out: which marks may be.
func TestMarksByHand(t *testing.T) {
	laid := "\x00\x00\x00\x00\x00\x00\x00\x00\x00\x00\x00\x00UTC\x00"
	for _, x := range []struct {
		std, ut string
		ok      bool
	}{
		{"", "", true}, {"\x00\x00", "", true}, {"\x01\x00", "", true}, {"\x00\x01", "", true}, {"\x01\x01", "", true},
		{"\x02\x00", "", false}, {"\x00\x02", "", false}, {"\xff\x00", "", false}, {"\x00\xff", "", false}, {"\x00\x80", "", false},
		{"", "\x00\x00", true}, {"", "\x01\x00", false}, {"", "\x00\x01", false}, {"", "\x02\x00", false}, {"", "\x00\x02", false}, {"", "\x00\xff", false}, {"", "\xff\x00", false},
		{"\x00\x00", "\x00\x00", true}, {"\x01\x00", "\x00\x00", true}, {"\x00\x01", "\x00\x00", true}, {"\x01\x01", "\x00\x00", true},
		{"\x01\x00", "\x01\x00", true}, {"\x00\x01", "\x00\x01", true}, {"\x01\x01", "\x01\x01", true}, {"\x01\x01", "\x01\x00", true}, {"\x01\x01", "\x00\x01", true},
		{"\x01\x00", "\x00\x01", false}, {"\x00\x01", "\x01\x00", false}, {"\x00\x00", "\x01\x00", false}, {"\x00\x00", "\x00\x01", false}, {"\x01\x00", "\x01\x01", false}, {"\x00\x01", "\x01\x01", false},
		{"\x01\x01", "\x02\x00", false}, {"\x01\x01", "\x00\x02", false}, {"\x01\x01", "\xff\x01", false}, {"\x01\x01", "\x01\xff", false}, {"\x02\x01", "\x02\x00", false}, {"\x02\x01", "\x01\x00", false}, {"\x01\x02", "\x00\x01", false}, {"\x02\x02", "\x01\x01", false}, {"\x02\x02", "\x02\x02", false},
	} {
		h := api.Head{Version: 2, Std: len(x.std), Ut: len(x.ut), Type: 2, Char: 4}
		want := named("UTC", "UTC")
		if !x.ok {
			want = api.Zone{}
		}
		checkDecode(t, h, []byte(laid+x.std+x.ut), 8, want, x.ok)
		checkDecode(t, h, []byte(laid+x.std+x.ut), 4, want, x.ok)
	}
}

// P16.3: each byte of Std, and of Ut, at each place of few kinds and of many.
func TestEachByteOfMarks(t *testing.T) {
	for _, n := range []int{1, 2, 5, 64} {
		laid := raw(4, nil, make([]row, n), "UTC\x00", nil)
		plain := named(slices.Repeat([]string{"UTC"}, n)...)
		check := func(std, ut []byte, ok bool) {
			t.Helper()
			want := plain
			if !ok {
				want = api.Zone{}
			}
			checkDecode(t, api.Head{Version: 2, Std: len(std), Ut: len(ut), Type: n, Char: 4}, slices.Concat(laid, std, ut), 4, want, ok)
		}
		noughts, ones := make([]byte, n), bytes.Repeat([]byte{1}, n)
		for k := range n {
			for _, c := range []byte{0, 1, 2, 3, 127, 128, 254, 255} {
				one, other := slices.Clone(noughts), slices.Clone(ones)
				one[k], other[k] = c, c
				check(one, nil, c <= 1)
				check(other, nil, c <= 1)
				check(nil, one, c == 0)
				check(nil, other, n == 1 && c == 0)
				check(one, noughts, c <= 1)
				check(noughts, one, c == 0)
				check(ones, one, c <= 1)
				check(ones, other, c <= 1)
				check(other, ones, c == 1)
				check(one, one, c <= 1)
				check(other, other, c <= 1)
			}
		}
		check(nil, ones, false)
		check(ones, nil, true)
		check(ones, ones, true)
		check(noughts, ones, false)
		check(noughts, noughts, true)
	}
}

// P16.3: where a name begins: in the middle of another one, at a byte 0, behind the last byte.
func TestPlacesByHand(t *testing.T) {
	for _, x := range []struct {
		pool  string
		place byte
		want  string
	}{
		{"UTC\x00", 0, "UTC"}, {"UTC\x00", 1, ""}, {"UTC\x00", 2, ""}, {"UTC\x00", 3, ""}, {"UTC\x00", 4, ""}, {"UTC\x00", 5, ""}, {"UTC\x00", 255, ""},
		{"LEST\x00EDT\x00", 0, "LEST"}, {"LEST\x00EDT\x00", 1, "EST"}, {"LEST\x00EDT\x00", 2, ""}, {"LEST\x00EDT\x00", 4, ""}, {"LEST\x00EDT\x00", 5, "EDT"}, {"LEST\x00EDT\x00", 8, ""}, {"LEST\x00EDT\x00", 9, ""},
		{"UTC", 0, ""}, {"UTC\x00EST", 0, "UTC"}, {"UTC\x00EST", 4, ""}, {"\x00UTC\x00", 0, ""}, {"\x00UTC\x00", 1, "UTC"}, {"\x00\x00\x00\x00", 0, ""}, {"\x00", 0, ""}, {"x", 0, ""},
		{"E T\x00UTC\x00", 0, ""}, {"E T\x00UTC\x00", 4, "UTC"}, {"\xff\xff\xff\x00UTC\x00", 4, "UTC"}, {"\xff\xff\xff\x00UTC\x00", 0, ""}, {"ES\x00UTC\x00", 3, "UTC"}, {"ES\x00UTC\x00", 0, ""},
		{"ABCDEFGHIJKLMNOPQ\x00", 0, ""}, {"ABCDEFGHIJKLMNOPQ\x00", 1, "BCDEFGHIJKLMNOPQ"}, {"ABCDEFGHIJKLMNOPQ\x00", 14, "OPQ"}, {"ABCDEFGHIJKLMNOPQ\x00", 15, ""}, {"<+03>\x00", 1, ""}, {"<+03\x00", 1, "+03"},
		{"UTC\x00\n\n\n\n", 0, "UTC"}, {"UTC\x00UTC\x00", 4, "UTC"}, {strings.Repeat("\x00", 252) + "UTC\x00", 252, "UTC"}, {strings.Repeat("A", 252) + "UTC\x00", 252, "UTC"}, {strings.Repeat("A", 252) + "UTC\x00", 239, "AAAAAAAAAAAAAUTC"}, {strings.Repeat("A", 252) + "UTC\x00", 238, ""},
	} {
		h := api.Head{Version: 2, Type: 1, Char: len(x.pool)}
		want := named(x.want)
		if x.want == "" {
			want = api.Zone{}
		}
		for _, size := range []int{4, 8} {
			checkDecode(t, h, raw(size, nil, []row{{place: x.place}}, x.pool, nil), size, want, x.want != "")
		}
	}
}

// P16.3: each place of pools, with the place of each kind, first and last.
func TestEachPlace(t *testing.T) {
	for _, pool := range []string{"EST\x00EDT\x00", "abcdefghijklmnopqrstuvwxyz\x00E\x00EST", "\x00UTC\x00\x00ES\x00E T\x00+0530\x00\xff\xff\xff\x00", strings.Repeat("A12\x00", 64), strings.Repeat("ABCDEFGHIJKLMNOP\x00", 15), strings.Repeat("x", 256)} {
		for place := range 256 {
			name, ok := slowAt(pool, place)
			for k := range 3 {
				first, has := slowAt(pool, 4)
				rows := slices.Repeat([]row{{place: 4}}, 3)
				rows[k].place = byte(place)
				want := named(first, first, first)
				want.Types[k].Abbr = name
				if !ok || !has {
					want = api.Zone{}
				}
				checkDecode(t, api.Head{Version: 2, Type: 3, Char: len(pool)}, raw(4, nil, rows, pool, nil), 4, want, ok && has)
			}
		}
	}
}

// P16.3: a name that would go on into the leap seconds, or the marks, is none: the pool ends ahead of them.
func TestNamesEndInThePool(t *testing.T) {
	h := api.Head{Version: 2, Leap: 1, Type: 1, Char: 3}
	checkNone(t, h, raw(4, nil, make([]row, 1), "UTC", []api.Corr{{At: 0, Corr: 0}}), 4)
	checkNone(t, h, raw(8, nil, make([]row, 1), "UTC", []api.Corr{{At: 0, Corr: 0}}), 8)
	checkNone(t, api.Head{Version: 2, Std: 1, Type: 1, Char: 3}, raw(8, nil, make([]row, 1), "UTC", nil, 0), 8)
	h.Char = 4
	checkNone(t, h, raw(4, nil, []row{{place: 4}}, "UTC\x00", []api.Corr{{At: 0x45535400, Corr: 0}}), 4)
	checkDecode(t, h, raw(4, nil, []row{{}}, "UTC\x00", []api.Corr{{At: 0x45535400, Corr: 0}}), 4, changed(utc(), func(z *api.Zone) { z.Leaps = []api.Corr{{At: 0x45535400}} }), true)
}

// P16.3: the Foot is empty, and the Version is that of the head; nothing is asked of what Right of zones asks.
func TestDecodeTellsVersionAndNoFoot(t *testing.T) {
	z := different()
	h, _ := Count(z)
	for _, size := range []int{4, 8} {
		b, _ := Encode(z, size)
		for v := 1; v <= 4; v++ {
			h.Version = v
			got, ok := Decode(h, b, size)
			if got.Version != v || got.Foot != "" || !ok || !slices.Equal(got.Trans, z.Trans) {
				t.Errorf("%s, %t", brief(got), ok)
			}
		}
	}
	wild := api.Zone{
		Types: []api.Type{{Off: -1 << 31, Abbr: "AAA"}, {Off: 1<<31 - 1, Dst: true, Abbr: "AAA"}},
		Trans: []api.Trans{{At: most, Type: 255}, {At: least, Type: 2}, {At: least, Type: 2}},
		Leaps: []api.Corr{{At: most, Corr: 1<<31 - 1}, {At: least, Corr: -1 << 31}, {}}, Version: 1,
	}
	checkEither(t, wild)
	b, ok := Encode(wild, 8)
	checkDecode(t, api.Head{Version: 1, Leap: 3, Time: 3, Type: 2, Char: 4}, b, 8, wild, ok)
}

// anyNumber tells a number at the edges of so many bytes, or anywhere between.
func anyNumber(r *rand.Rand, size int) int {
	n := int(r.Uint64())
	switch size {
	case 1:
		return []int{0, 1, 255, n & 255}[r.Intn(4)]
	case 4:
		return []int{0, -1, -1 << 31, 1<<31 - 1, int(int32(n))}[r.Intn(5)]
	}
	return []int{0, -1, least, most, int(int32(n)), n}[r.Intn(6)]
}

// anyZone tells a zone with a head, whose times have so many bytes.
func anyZone(r *rand.Rand, size int) api.Zone {
	z := api.Zone{Version: 1 + r.Intn(4), Foot: []string{"", "UTC0", "\x00", "x\n"}[r.Intn(4)]}
	names := []string{"EST", "EDT", "+0530", "ESTx", "xEST", "ABCDEFGHIJKLMNOP", "-00", "000"}
	for range 1 + r.Intn([]int{1, 4, 64}[r.Intn(3)]) {
		z.Types = append(z.Types, api.Type{Off: anyNumber(r, 4), Dst: r.Intn(2) == 0, Abbr: names[r.Intn(len(names))]})
	}
	for range r.Intn([]int{1, 2, 9, 40}[r.Intn(4)]) {
		z.Trans = append(z.Trans, api.Trans{At: anyNumber(r, size), Type: anyNumber(r, 1)})
	}
	for range r.Intn([]int{1, 2, 9, 40}[r.Intn(4)]) {
		z.Leaps = append(z.Leaps, api.Corr{At: anyNumber(r, size), Corr: anyNumber(r, 4)})
	}
	return z
}

// P16.5: what was laid is read as it was, over many zones, but for the Foot.
func TestWhatWasLaidIsReadAsItWas(t *testing.T) {
	r := rand.New(rand.NewSource(165))
	for range 6000 {
		size := []int{4, 8}[r.Intn(2)]
		z := anyZone(r, size)
		h, ok := Count(z)
		b, is := Encode(z, size)
		if !ok || !is {
			t.Fatalf("%s: %t, %t", brief(z), ok, is)
		}
		z.Foot = ""
		got, read := Decode(h, b, size)
		if !same(got, z) || !read {
			t.Fatalf("%s was read as %s, %t", brief(z), brief(got), read)
		}
		again, _ := Encode(got, size)
		if !bytes.Equal(again, b) {
			t.Fatalf("% x was laid again as % x", b, again)
		}
	}
}

// P16.1, P16.2, P16.3: any zones, some of them wrong in one thing, against the slow ways.
func TestAnyZones(t *testing.T) {
	r := rand.New(rand.NewSource(16))
	rights := 0
	for range 6000 {
		z := anyZone(r, []int{4, 8}[r.Intn(2)])
		switch r.Intn(12) {
		case 0:
			z.Version = r.Intn(8) - 1
		case 1:
			z.Types[r.Intn(len(z.Types))].Abbr = wrongNames()[r.Intn(len(wrongNames()))]
		case 2:
			z.Types[r.Intn(len(z.Types))].Off = anyNumber(r, 8)
		case 3:
			z.Trans = append(z.Trans, api.Trans{At: anyNumber(r, 8), Type: anyNumber(r, 4)})
		case 4:
			z.Leaps = append(z.Leaps, api.Corr{At: anyNumber(r, 8), Corr: anyNumber(r, 8)})
		case 5:
			z.Types = nil
		}
		checkEither(t, z)
		if _, ok := slowEncode(z, 4); ok {
			rights++
		}
	}
	// Both must be often enough to say something.
	if rights < 1000 || rights > 5000 {
		t.Errorf("of 6000 zones %d have data of four bytes", rights)
	}
}

// P16.3: any bytes, most of them nearly a zone's data, against the slow way.
func TestAnyBytes(t *testing.T) {
	r := rand.New(rand.NewSource(163))
	rights := 0
	for range 30000 {
		size := []int{4, 8}[r.Intn(2)]
		z := anyZone(r, size)
		h, _ := slowCount(z)
		b, _ := slowEncode(z, size)
		if r.Intn(2) == 0 {
			h.Std = h.Type
			b = append(b, bytes.Repeat([]byte{byte(r.Intn(2))}, h.Type)...)
		}
		if r.Intn(2) == 0 {
			h.Ut = h.Type
			b = append(b, make([]byte, h.Type)...)
		}
		for range r.Intn(4) {
			b[r.Intn(len(b))] = byte([]int{0, 1, 2, 4, 255, r.Intn(256)}[r.Intn(6)])
		}
		if r.Intn(20) == 0 {
			b = b[:r.Intn(len(b))]
		}
		if r.Intn(20) == 0 {
			h.Char += r.Intn(3) - 1
		}
		want, ok := slowDecode(h, b, size)
		checkDecode(t, h, b, size, want, ok)
		if ok {
			rights++
		}
	}
	if rights < 5000 || rights > 25000 {
		t.Errorf("of 30000 rows of bytes %d are data", rights)
	}
}

// P16.3: each byte at each place of some data.
func TestEachByteOfData(t *testing.T) {
	z := changed(different(), func(z *api.Zone) { z.Trans, z.Leaps = z.Trans[:1], z.Leaps[:1] })
	h, _ := Count(z)
	h.Std, h.Ut = 4, 4
	for _, size := range []int{4, 8} {
		b, _ := Encode(z, size)
		b = append(b, 1, 0, 1, 0, 1, 0, 0, 0)
		for k := range b {
			had := b[k]
			for c := range 256 {
				b[k] = byte(c)
				want, ok := slowDecode(h, b, size)
				checkDecode(t, h, b, size, want, ok)
			}
			b[k] = had
		}
	}
}

// roomy tells l as a piece of a list, with others ahead of it and in its spare room, and the whole.
func roomy[E any](l []E, other E) ([]E, []E) {
	whole := slices.Concat([]E{other}, l, slices.Repeat([]E{other}, 70))
	return whole[1 : 1+len(l)], whole
}

// P16.4, W6: what is handed to Count and Encode stays as it was, with its spare room, and is not kept; each answer is new memory.
func TestZonesAreNotChanged(t *testing.T) {
	tooGreat := changed(different(), func(z *api.Zone) { z.Leaps[1].Corr = most })
	for _, z := range []api.Zone{{}, utc(), different(), tooGreat, sized(64, 2000, 201), sized(65, 2001, 202), named("EST", "X")} {
		types, allTypes := roomy(z.Types, api.Type{Off: 77, Dst: true, Abbr: "ZZZ"})
		trans, allTrans := roomy(z.Trans, api.Trans{At: 77, Type: 7})
		leaps, allLeaps := roomy(z.Leaps, api.Corr{At: 77, Corr: 7})
		hadTypes, hadTrans, hadLeaps := slices.Clone(allTypes), slices.Clone(allTrans), slices.Clone(allLeaps)
		some := api.Zone{Types: types, Trans: trans, Leaps: leaps, Foot: z.Foot, Version: z.Version}
		for _, size := range []int{4, 8, 5} {
			want, ok := slowEncode(z, size)
			h, is := slowCount(z)
			checkCount(t, some, h, is)
			first, right := Encode(some, size)
			second, _ := Encode(some, size)
			if !slices.Equal(allTypes, hadTypes) || !slices.Equal(allTrans, hadTrans) || !slices.Equal(allLeaps, hadLeaps) {
				t.Fatalf("%s was changed", brief(z))
			}
			if !bytes.Equal(first, want) || right != ok {
				t.Errorf("Encode(%s, %d): % .300x, %t", brief(z), size, first, right)
			}
			first = first[:cap(first)]
			for k := range first {
				first[k] = 0x5a
			}
			if !bytes.Equal(second, want) {
				t.Errorf("two answers of Encode(%s, %d) share memory", brief(z), size)
			}
			clear(allTypes)
			clear(allTrans)
			clear(allLeaps)
			if !bytes.Equal(second, want) {
				t.Errorf("the data of %s changed with it", brief(z))
			}
			copy(allTypes, hadTypes)
			copy(allTrans, hadTrans)
			copy(allLeaps, hadLeaps)
		}
	}
}

// spoil changes all of z's lists, their spare room too.
func spoil(z api.Zone) {
	for k := range z.Types[:cap(z.Types)] {
		z.Types[:cap(z.Types)][k] = api.Type{Off: 99, Abbr: "spoilt"}
	}
	for k := range z.Trans[:cap(z.Trans)] {
		z.Trans[:cap(z.Trans)][k] = api.Trans{At: 99, Type: 9}
	}
	for k := range z.Leaps[:cap(z.Leaps)] {
		z.Leaps[:cap(z.Leaps)][k] = api.Corr{At: 99, Corr: 9}
	}
}

// P16.4, W6: the bytes that are handed to Decode stay as they were, with their spare room, and are not kept; each answer is new memory, its names too.
func TestBytesAreNotChanged(t *testing.T) {
	for _, z := range []api.Zone{utc(), different(), sized(64, 2000, 201)} {
		want := copied(z)
		want.Foot = ""
		for _, size := range []int{4, 8} {
			laid, _ := slowEncode(z, size)
			h, _ := slowCount(z)
			h.Std, h.Ut = h.Type, h.Type
			laid = append(laid, make([]byte, 2*h.Type)...)
			b, whole := roomy(laid, 0xa5)
			had := slices.Clone(whole)
			first, ok := Decode(h, b, size)
			second, is := Decode(h, b, size)
			if !bytes.Equal(whole, had) || !ok || !is {
				t.Fatalf("% .300x became % .300x, %t, %t", had, whole, ok, is)
			}
			clear(whole)
			if !same(first, want) || !same(second, want) {
				t.Errorf("%s and %s changed with their bytes", brief(first), brief(second))
			}
			spoil(first)
			if !same(second, want) {
				t.Errorf("two answers share memory: %s", brief(second))
			}
			third, _ := Decode(h, laid, size)
			if !same(third, want) {
				t.Errorf("Decode hangs on what it answered earlier: %s", brief(third))
			}
		}
	}
}

// shares tells whether two texts that are not empty share memory.
func shares(a, b string) bool {
	first, second := uintptr(unsafe.Pointer(unsafe.StringData(a))), uintptr(unsafe.Pointer(unsafe.StringData(b)))
	return first < second+uintptr(len(b)) && second < first+uintptr(len(a))
}

// P16.4, W6: the names that Decode answers share memory neither with the bytes nor with those of another answer.
func TestNamesAreNewMemory(t *testing.T) {
	b := raw(8, nil, []row{{}, {place: 5}, {place: 5}, {place: 1}}, "LEST\x00EDT\x00", nil)
	h := api.Head{Version: 2, Type: 4, Char: 9}
	first, ok := Decode(h, b, 8)
	second, is := Decode(h, b, 8)
	if !ok || !is {
		t.Fatalf("%t, %t", ok, is)
	}
	for k, x := range first.Types {
		for _, y := range second.Types {
			if shares(x.Abbr, y.Abbr) {
				t.Errorf("%q and %q share memory", x.Abbr, y.Abbr)
			}
		}
		if shares(x.Abbr, unsafe.String(&b[0], len(b))) {
			t.Errorf("%d: %q is a piece of the bytes", k, x.Abbr)
		}
	}
}

// W2: calls at the same time, of the same things, do not touch each other.
func TestCallsAtTheSameTime(t *testing.T) {
	z := different()
	h, _ := slowCount(z)
	b, _ := slowEncode(z, 8)
	want := z
	want.Foot = ""
	var all sync.WaitGroup
	for range 16 {
		all.Go(func() {
			for range 200 {
				if got, ok := Count(z); got != h || !ok {
					t.Errorf("%+v, %t, at the same time as others", got, ok)
				}
				x, ok := Encode(z, 8)
				if !bytes.Equal(x, b) || !ok {
					t.Errorf("% x, %t, at the same time as others", x, ok)
				}
				clear(x)
				got, ok := Decode(h, b, 8)
				if !same(got, want) || !ok {
					t.Errorf("%s, %t, at the same time as others", brief(got), ok)
				}
				spoil(got)
			}
		})
	}
	all.Wait()
}

// W1, P16.1 to P16.5: whatever bytes, head and size; and the zone that is read, or made, of them.
func FuzzBlock(f *testing.F) {
	for _, z := range []api.Zone{utc(), different(), named("EST", "EDT", "EST")} {
		for _, size := range []int{4, 8} {
			b, _ := slowEncode(z, size)
			f.Add(b, z.Version, 0, 0, len(z.Leaps), len(z.Trans), len(z.Types), len(b), size, "EST", 1<<31)
			h, _ := slowCount(z)
			f.Add(b, h.Version, h.Ut, h.Std, h.Leap, h.Time, h.Type, h.Char, size, "", -1)
			f.Add(append(b, make([]byte, 2*h.Type)...), h.Version, h.Type, h.Type, h.Leap, h.Time, h.Type, h.Char, size, "E\x00T", 256)
		}
	}
	f.Add([]byte(nil), least, most, least, most, least, most, least, most, "x", least)
	f.Fuzz(func(t *testing.T, b []byte, version, ut, std, leap, times, types, char, size int, name string, n int) {
		h := api.Head{Version: version, Ut: ut, Std: std, Leap: leap, Time: times, Type: types, Char: char}
		want, ok := slowDecode(h, b, size)
		checkDecode(t, h, b, size, want, ok)
		checkEither(t, want)
		z := changed(want, func(z *api.Zone) {
			z.Types = append(z.Types, api.Type{Off: n, Dst: true, Abbr: name})
			z.Trans = append(z.Trans, api.Trans{At: n, Type: times})
			z.Leaps = append(z.Leaps, api.Corr{At: times, Corr: n})
			z.Foot = name
			z.Version = version
		})
		checkEither(t, z)
		for _, s := range []int{size, char, n} {
			data, fits := slowEncode(z, s)
			checkEncode(t, z, s, data, fits)
		}
	})
}
