package head

import (
	"bytes"
	"encoding/binary"
	"math/rand"
	"slices"
	"strings"
	"sync"
	"testing"

	"epact/api"
)

const (
	most  = api.MaxInt
	least = api.MinInt
)

// greatest is the head with the greatest number in each field.
var greatest = api.Head{Version: 4, Ut: 64, Std: 64, Leap: 201, Time: 2000, Type: 64, Char: 256}

// smallest is the one with the least ones.
var smallest = api.Head{Version: 1, Type: 1, Char: 1}

// different is one whose numbers differ from each other as far as they may.
var different = api.Head{Version: 3, Ut: 2, Std: 0, Leap: 27, Time: 236, Type: 2, Char: 8}

// field is a number of a head: where it is, its edges, and where its bytes begin.
type field struct {
	name      string
	of        func(h *api.Head) *int
	low, high int
	at        int
}

// fields tells those numbers whose edges do not hang on others.
func fields() []field {
	return []field{
		{"Version", func(h *api.Head) *int { return &h.Version }, 1, 4, 0},
		{"Leap", func(h *api.Head) *int { return &h.Leap }, 0, 201, 28},
		{"Time", func(h *api.Head) *int { return &h.Time }, 0, 2000, 32},
		{"Type", func(h *api.Head) *int { return &h.Type }, 1, 64, 36},
		{"Char", func(h *api.Head) *int { return &h.Char }, 1, 256, 40},
	}
}

// far are numbers that none may be, many of which look right in their lowest bytes.
func far() []int {
	return []int{
		least, least + 1, least + 2, least + 8, most, most - 1, -1, -2, -4, -64, -200, -256, -1 << 8, -1<<8 + 2, -1 << 16, -1<<16 + 2, -1 << 31, -1<<31 + 2, -1<<31 - 1, -1 << 32, -1<<32 + 1, -1<<32 + 2,
		2001, 1 << 12, 1 << 16, 1<<16 + 1, 1<<16 + 2, 1 << 24, 1<<24 + 2, 1<<31 - 1, 1 << 31, 1<<31 + 2, 1<<32 - 1, 1 << 32, 1<<32 + 1, 1<<32 + 2, 1<<32 + 64, 1<<62 + 2,
	}
}

// slowRight is another way to tell whether a head is right: by its numbers and what each of them may be, written out.
func slowRight(h api.Head) bool {
	switch h.Version {
	case 1, 2, 3, 4:
	default:
		return false
	}
	if h.Ut != 0 && h.Ut != h.Type || h.Std != 0 && h.Std != h.Type {
		return false
	}
	return !(h.Leap < 0 || h.Leap >= 202 || h.Time < 0 || h.Time >= 2001 || h.Type <= 0 || h.Type >= 65 || h.Char <= 0 || h.Char >= 257)
}

// raw tells forty-four bytes of any numbers, of which the lowest thirty-two bits count.
func raw(version byte, numbers ...int) []byte {
	b := slices.Concat([]byte{'T', 'Z', 'i', 'f', version}, make([]byte, 15))
	for _, n := range numbers {
		b = binary.BigEndian.AppendUint32(b, uint32(n))
	}
	return b
}

// slowBytes tells the bytes of a head that is right.
func slowBytes(h api.Head) []byte {
	return raw("?\x00234"[h.Version], h.Ut, h.Std, h.Leap, h.Time, h.Type, h.Char)
}

// slowDecode is another way to a head: by each of the bytes that it must have.
func slowDecode(b []byte) (api.Head, bool) {
	if len(b) < 44 || !strings.HasPrefix(string(b), "TZif") || string(b[5:20]) != strings.Repeat("\x00", 15) {
		return api.Head{}, false
	}
	v, has := map[byte]int{0: 1, 50: 2, 51: 3, 52: 4}[b[4]]
	var n [6]int
	for k := range n {
		n[k] = int(int32(binary.BigEndian.Uint32(b[20+4*k:])))
	}
	h := api.Head{Version: v, Ut: n[0], Std: n[1], Leap: n[2], Time: n[3], Type: n[4], Char: n[5]}
	if !has || !slowRight(h) {
		return api.Head{}, false
	}
	return h, true
}

// slowSize is another way to a size: what follows is gone through one by one.
func slowSize(h api.Head, size int) int {
	if !slowRight(h) || size != 4 && size != 8 {
		return 0
	}
	n := 0
	for range h.Time {
		n += size
		n++
	}
	for range h.Leap {
		n += size
		n += 4
	}
	for range h.Type {
		n += 4 + 1 + 1
	}
	return n + h.Std + h.Ut + h.Char
}

// checkWrong asks all of a head that is not right.
func checkWrong(t *testing.T, h api.Head) {
	t.Helper()
	if Right(h) {
		t.Errorf("Right(%+v)", h)
	}
	if b, ok := Encode(h); len(b) != 0 || ok {
		t.Errorf("Encode(%+v): % x, %t", h, b, ok)
	}
	for _, size := range []int{0, 4, 8} {
		checkSize(t, h, size, 0)
	}
}

// checkRight asks all of a head that is right, whose bytes are these.
func checkRight(t *testing.T, h api.Head, want []byte) {
	t.Helper()
	if !Right(h) {
		t.Errorf("not Right(%+v)", h)
	}
	if b, ok := Encode(h); !bytes.Equal(b, want) || !ok {
		t.Errorf("Encode(%+v): % x, %t; want % x", h, b, ok, want)
	}
	checkDecode(t, want, h)
	checkSize(t, h, 4, slowSize(h, 4))
	checkSize(t, h, 8, slowSize(h, 8))
}

// checkEither asks all of a head, right or not.
func checkEither(t *testing.T, h api.Head) {
	t.Helper()
	if slowRight(h) {
		checkRight(t, h, slowBytes(h))
	} else {
		checkWrong(t, h)
	}
}

// checkDecode asks for the head of bytes that have one, and of the same with others behind them.
func checkDecode(t *testing.T, b []byte, want api.Head) {
	t.Helper()
	for _, behind := range []string{"", "\x00", "x", "TZif2", strings.Repeat("\xff", 100)} {
		if h, ok := Decode(append(slices.Clone(b), behind...)); h != want || !ok {
			t.Errorf("Decode(% x) and %q: %+v, %t; want %+v", b, behind, h, ok, want)
		}
	}
}

// checkNone asks for the head of bytes that have none, and of the same with others behind them, if they are as many as those of a head.
func checkNone(t *testing.T, b []byte) {
	t.Helper()
	for _, behind := range []string{"", "x", strings.Repeat("\x00", 44)} {
		if behind != "" && len(b) < 44 {
			break
		}
		if h, ok := Decode(append(slices.Clone(b), behind...)); h != (api.Head{}) || ok {
			t.Errorf("Decode(% x) and %q: %+v, %t", b, behind, h, ok)
		}
	}
}

func checkSize(t *testing.T, h api.Head, size, want int) {
	t.Helper()
	if n := Size(h, size); n != want {
		t.Errorf("Size(%+v, %d): %d; want %d", h, size, n, want)
	}
}

// anyHead tells a head that is right, at its edges or between them.
func anyHead(r *rand.Rand) api.Head {
	var h api.Head
	for _, f := range fields() {
		n := f.low + r.Intn(f.high-f.low+1)
		switch r.Intn(4) {
		case 0:
			n = f.low
		case 1:
			n = f.high
		}
		*f.of(&h) = n
	}
	if r.Intn(2) == 0 {
		h.Ut = h.Type
	}
	if r.Intn(2) == 0 {
		h.Std = h.Type
	}
	return h
}

// P15.1: the least and the greatest head, and some between them.
func TestRightByHand(t *testing.T) {
	for _, h := range []api.Head{smallest, different, greatest, {Version: 2, Type: 1, Char: 4}, {Version: 1, Leap: 201, Time: 2000, Type: 64, Char: 256}, {Version: 2, Ut: 5, Std: 5, Time: 236, Type: 5, Char: 20}} {
		if !Right(h) {
			t.Errorf("not Right(%+v)", h)
		}
	}
	for _, h := range []api.Head{{}, {Version: 2}, {Version: 2, Type: 1}, {Version: 2, Char: 4}, {Type: 1, Char: 4}, {Version: 2, Ut: 1, Std: 1, Leap: 1, Time: 1, Char: 1}} {
		checkWrong(t, h)
	}
}

// P15.1, P15.3: each field at both edges, one beyond each of them, and far from them, in the least head, in the greatest one, and between.
func TestEachFieldAtItsEdges(t *testing.T) {
	for _, base := range []api.Head{smallest, different, greatest, {Version: 2, Leap: 1, Time: 1, Type: 7, Char: 28}} {
		// Where others are as many as Type, it can't be changed alone.
		base.Ut, base.Std = 0, 0
		for _, f := range fields() {
			for _, n := range []int{f.low, f.low + 1, f.high - 1, f.high} {
				h := base
				*f.of(&h) = n
				checkRight(t, h, slowBytes(h))
			}
			for _, n := range append(far(), f.low-1, f.low-2, f.high+1, f.high+2) {
				h := base
				*f.of(&h) = n
				if f.low <= n && n <= f.high {
					t.Fatalf("%s: %d is not far", f.name, n)
				}
				checkWrong(t, h)
			}
		}
	}
}

// P15.1: the edges that the document names, written out: what may be.
func TestEdgesByHand(t *testing.T) {
	for _, x := range []struct {
		name  string
		right []int
		wrong []int
	}{
		{"Version", []int{1, 2, 3, 4}, []int{0, 5, -1, 48, 49, 50, 51, 52}},
		{"Leap", []int{0, 1, 200, 201}, []int{-1, 202, 203}},
		{"Time", []int{0, 1, 1999, 2000}, []int{-1, 2001, 2002}},
		{"Type", []int{1, 2, 63, 64}, []int{-1, 0, 65, 66}},
		{"Char", []int{1, 2, 255, 256}, []int{-1, 0, 257, 258}},
	} {
		k := slices.IndexFunc(fields(), func(f field) bool { return f.name == x.name })
		of := fields()[k].of
		for _, n := range x.right {
			h := api.Head{Version: 2, Leap: 3, Time: 4, Type: 5, Char: 6}
			*of(&h) = n
			if !Right(h) {
				t.Errorf("%s: %d is not right", x.name, n)
			}
		}
		for _, n := range x.wrong {
			h := api.Head{Version: 2, Leap: 3, Time: 4, Type: 5, Char: 6}
			*of(&h) = n
			checkWrong(t, h)
		}
	}
}

// P15.1: all numbers of a field from below its edges to beyond them, the others as they are.
func TestEachNumberOfAField(t *testing.T) {
	for _, f := range fields() {
		for n := f.low - 300; n <= f.high+300; n++ {
			h := api.Head{Version: 2, Leap: 3, Time: 4, Type: 5, Char: 6}
			*f.of(&h) = n
			checkEither(t, h)
		}
	}
}

// P15.1, P15.3: Ut and Std at 0, at as many as Type, one less, one more, below 0, and far off, alone and together, for each Type.
func TestUtAndStdHangOnType(t *testing.T) {
	for types := 1; types <= 64; types++ {
		numbers := append(far(), 0, types, types-1, types+1, -types, 2*types, 1, 64, 65, types+1<<8, types+1<<32, types-1<<32)
		for _, n := range numbers {
			h := api.Head{Version: 2, Leap: 3, Time: 4, Type: types, Char: 6}
			right := n == 0 || n == types
			for _, x := range []struct {
				ut, std int
				right   bool
			}{{n, 0, right}, {0, n, right}, {n, n, right}, {n, types, right}, {types, n, right}, {n, types + 1, false}, {-1, n, false}} {
				h.Ut, h.Std = x.ut, x.std
				if x.right {
					checkRight(t, h, slowBytes(h))
				} else {
					checkWrong(t, h)
				}
			}
		}
	}
}

// P15.1: where Type may not be, it helps none that Ut and Std are as many.
func TestUtAndStdOfNoRightType(t *testing.T) {
	for _, types := range append(far(), 0, -1, 65, 66) {
		for _, ut := range []int{0, types} {
			for _, std := range []int{0, types} {
				checkWrong(t, api.Head{Version: 2, Ut: ut, Std: std, Type: types, Char: 6})
			}
		}
	}
}

// P15.1: the least and the greatest number in each field, and in all of them.
func TestTheGreatestNumbers(t *testing.T) {
	for _, n := range []int{least, most} {
		for _, h := range []api.Head{smallest, greatest} {
			for _, change := range []func(h *api.Head){
				func(h *api.Head) { h.Version = n }, func(h *api.Head) { h.Ut = n }, func(h *api.Head) { h.Std = n }, func(h *api.Head) { h.Leap = n }, func(h *api.Head) { h.Time = n }, func(h *api.Head) { h.Type = n }, func(h *api.Head) { h.Char = n },
				func(h *api.Head) { h.Type, h.Ut = n, n }, func(h *api.Head) { h.Type, h.Std = n, n }, func(h *api.Head) { h.Type, h.Ut, h.Std = n, n, n },
				func(h *api.Head) { *h = api.Head{Version: n, Ut: n, Std: n, Leap: n, Time: n, Type: n, Char: n} },
			} {
				g := h
				change(&g)
				checkWrong(t, g)
			}
		}
	}
}

// P15.1, P15.2: heads of each version, with their forty-four bytes written out.
func TestBytesByHand(t *testing.T) {
	noughts := strings.Repeat("\x00", 15)
	for _, x := range []struct {
		h    api.Head
		want string
	}{
		{smallest, "TZif\x00" + noughts + "\x00\x00\x00\x00\x00\x00\x00\x00\x00\x00\x00\x00\x00\x00\x00\x00\x00\x00\x00\x01\x00\x00\x00\x01"},
		{api.Head{Version: 1, Ut: 5, Std: 0, Leap: 27, Time: 236, Type: 5, Char: 20}, "TZif\x00" + noughts + "\x00\x00\x00\x05\x00\x00\x00\x00\x00\x00\x00\x1b\x00\x00\x00\xec\x00\x00\x00\x05\x00\x00\x00\x14"},
		{api.Head{Version: 2, Ut: 0, Std: 6, Leap: 200, Time: 1999, Type: 6, Char: 255}, "TZif\x32" + noughts + "\x00\x00\x00\x00\x00\x00\x00\x06\x00\x00\x00\xc8\x00\x00\x07\xcf\x00\x00\x00\x06\x00\x00\x00\xff"},
		{api.Head{Version: 3, Ut: 9, Std: 9, Leap: 1, Time: 256, Type: 9, Char: 40}, "TZif\x33" + noughts + "\x00\x00\x00\x09\x00\x00\x00\x09\x00\x00\x00\x01\x00\x00\x01\x00\x00\x00\x00\x09\x00\x00\x00\x28"},
		{different, "TZif\x33" + noughts + "\x00\x00\x00\x02\x00\x00\x00\x00\x00\x00\x00\x1b\x00\x00\x00\xec\x00\x00\x00\x02\x00\x00\x00\x08"},
		{greatest, "TZif\x34" + noughts + "\x00\x00\x00\x40\x00\x00\x00\x40\x00\x00\x00\xc9\x00\x00\x07\xd0\x00\x00\x00\x40\x00\x00\x01\x00"},
	} {
		if len(x.want) != 44 {
			t.Fatalf("%q has %d bytes", x.want, len(x.want))
		}
		checkRight(t, x.h, []byte(x.want))
	}
}

// P15.1: each byte has its place: what is asked of a version and of a number is to be seen there, and nowhere else.
func TestEachFieldHasItsPlace(t *testing.T) {
	base := api.Head{Version: 2, Leap: 1, Time: 1, Type: 1, Char: 1}
	for _, f := range fields()[1:] {
		h := base
		*f.of(&h) = f.high
		want := slowBytes(base)
		binary.BigEndian.PutUint32(want[f.at:], uint32(f.high))
		checkRight(t, h, want)
	}
	for v, c := range map[int]byte{1: 0, 2: 50, 3: 51, 4: 52} {
		h := base
		h.Version = v
		want := slowBytes(base)
		want[4] = c
		checkRight(t, h, want)
	}
	for at, change := range map[int]func(h *api.Head){20: func(h *api.Head) { h.Ut = 7 }, 24: func(h *api.Head) { h.Std = 7 }} {
		h := base
		h.Type = 7
		want := slowBytes(h)
		want[at+3] = 7
		change(&h)
		checkRight(t, h, want)
	}
}

// P15.2: fewer than forty-four bytes, each count of them, of heads of each version and of others.
func TestDecodeOfTooFewBytes(t *testing.T) {
	checkNone(t, nil)
	checkNone(t, []byte{})
	for _, h := range []api.Head{smallest, different, greatest} {
		b := slowBytes(h)
		for n := range 44 {
			checkNone(t, b[:n])
			checkNone(t, b[44-n:])
			// That the rest stands in the spare room helps none.
			if g, ok := Decode(b[:n]); g != (api.Head{}) || ok {
				t.Errorf("Decode of %d bytes: %+v, %t", n, g, ok)
			}
		}
	}
	for n := range 44 {
		checkNone(t, make([]byte, n))
		checkNone(t, bytes.Repeat([]byte{'T'}, n))
	}
}

// P15.2: each byte of the name is another one, in its bits, in its case; or they change places, or the head begins later.
func TestDecodeOfOtherNames(t *testing.T) {
	for _, h := range []api.Head{smallest, different, greatest} {
		b := slowBytes(h)
		for k := range 4 {
			had := b[k]
			for c := range 256 {
				b[k] = byte(c)
				if byte(c) == had {
					checkDecode(t, b, h)
				} else {
					checkNone(t, b)
				}
			}
			b[k] = had
		}
		for _, name := range []string{"tzif", "TZIF", "tZIF", "TZfi", "ZTif", "fiZT", "TZi\x00", "\x00\x00\x00\x00", "    ", "TZip", "zone"} {
			checkNone(t, slices.Concat([]byte(name), b[4:]))
		}
		checkNone(t, slices.Concat([]byte{0}, b))
		checkNone(t, slices.Concat([]byte("T"), b))
		checkNone(t, slices.Concat([]byte("\xef\xbb\xbf"), b))
		checkNone(t, slices.Concat(b[:4], []byte{0}, b[4:]))
	}
}

// P15.2: each of all bytes at the version's place.
func TestDecodeOfEachVersion(t *testing.T) {
	for _, h := range []api.Head{smallest, different, greatest} {
		b := slowBytes(h)
		for c := range 256 {
			b[4] = byte(c)
			switch c {
			case 0:
				h.Version = 1
			case '2', '3', '4':
				h.Version = c - '0'
			default:
				checkNone(t, b)
				continue
			}
			checkDecode(t, b, h)
		}
	}
}

// P15.2: each of the fifteen bytes 0 is another one: the bytes of no head have it.
func TestDecodeOfOtherNoughts(t *testing.T) {
	for _, h := range []api.Head{smallest, different, greatest} {
		b := slowBytes(h)
		for k := 5; k < 20; k++ {
			for c := 1; c < 256; c++ {
				b[k] = byte(c)
				checkNone(t, b)
			}
			b[k] = 0
		}
		checkDecode(t, b, h)
		for c := 1; c < 256; c++ {
			checkNone(t, slices.Concat(b[:5], bytes.Repeat([]byte{byte(c)}, 15), b[20:]))
		}
	}
}

// P15.2: each number at its edges, beyond them, and with its first bit set, or any other.
func TestDecodeOfEachNumber(t *testing.T) {
	for _, f := range fields()[1:] {
		for _, h := range []api.Head{smallest, {Version: 3, Leap: 27, Time: 236, Type: 2, Char: 8}, {Version: 4, Leap: 201, Time: 2000, Type: 64, Char: 256}} {
			for n := f.low; n <= f.high; n++ {
				*f.of(&h) = n
				checkDecode(t, slowBytes(h), h)
			}
			b := slowBytes(h)
			for _, n := range append(far(), f.low-1, f.low-2, f.high+1, f.high+2, f.high+256) {
				if low := int(int32(n)); low >= f.low && low <= f.high {
					continue
				}
				binary.BigEndian.PutUint32(b[f.at:], uint32(n))
				checkNone(t, b)
			}
			for bit := range 32 {
				n := int(int32(1<<bit | f.low))
				binary.BigEndian.PutUint32(b[f.at:], uint32(n))
				if want, ok := slowDecode(b); ok {
					checkDecode(t, b, want)
				} else {
					checkNone(t, b)
				}
			}
		}
	}
}

// P15.2: Ut or Std that are neither 0 nor as many as Type, and such that are.
func TestDecodeOfUtAndStd(t *testing.T) {
	for _, types := range []int{1, 2, 5, 63, 64} {
		for _, n := range []int{0, 1, 2, 3, 4, 5, 6, 62, 63, 64, 65, -1, -types, types - 1, types + 1, types + 256, types + 1<<16, types - 1<<31, 1<<31 - 1, -1 << 31} {
			for _, x := range [][2]int{{n, 0}, {0, n}, {n, n}, {n, types}, {types, n}} {
				b := raw('2', x[0], x[1], 3, 4, types, 6)
				if n == 0 || n == types {
					checkDecode(t, b, api.Head{Version: 2, Ut: x[0], Std: x[1], Leap: 3, Time: 4, Type: types, Char: 6})
				} else {
					checkNone(t, b)
				}
			}
		}
	}
}

// P15.2: each byte at each place of a head.
func TestDecodeOfEachByte(t *testing.T) {
	for _, h := range []api.Head{smallest, different, greatest, {Version: 2, Ut: 7, Type: 7, Char: 30}, {Version: 2, Std: 7, Leap: 5, Type: 7, Char: 30}} {
		b := slowBytes(h)
		for k := range b {
			had := b[k]
			for c := range 256 {
				b[k] = byte(c)
				if want, ok := slowDecode(b); ok {
					checkDecode(t, b, want)
				} else {
					checkNone(t, b)
				}
			}
			b[k] = had
		}
	}
}

// P15.2: what stands behind the first forty-four bytes may be anything, and as much as will, another head too.
func TestDecodeWithMoreBehind(t *testing.T) {
	b := slowBytes(different)
	for n := range 300 {
		if h, ok := Decode(append(slices.Clone(b), make([]byte, n)...)); h != different || !ok {
			t.Errorf("%d more bytes: %+v, %t", n, h, ok)
		}
	}
	for _, behind := range [][]byte{slowBytes(smallest), slowBytes(greatest), b, bytes.Repeat([]byte{0xff}, 1<<22)} {
		if h, ok := Decode(slices.Concat(b, behind)); h != different || !ok {
			t.Errorf("%d more bytes: %+v, %t", len(behind), h, ok)
		}
		spoiled := slices.Concat(b, behind)
		spoiled[43] = 0
		if h, ok := Decode(spoiled); h != (api.Head{}) || ok {
			t.Errorf("none, and %d more bytes: %+v, %t", len(behind), h, ok)
		}
	}
}

// P15.3: the chapter's example, and sizes written out.
func TestSizeByHand(t *testing.T) {
	checkSize(t, api.Head{Version: 2, Type: 1, Char: 4}, 8, 10)
	checkSize(t, api.Head{Version: 2, Type: 1, Char: 4}, 4, 10)
	for _, x := range []struct {
		h            api.Head
		small, great int
	}{
		{smallest, 7, 7},
		{api.Head{Version: 1, Type: 1, Char: 2}, 8, 8},
		{api.Head{Version: 1, Type: 2, Char: 1}, 13, 13},
		{api.Head{Version: 1, Time: 1, Type: 1, Char: 1}, 12, 16},
		{api.Head{Version: 1, Leap: 1, Type: 1, Char: 1}, 15, 19},
		{api.Head{Version: 1, Ut: 1, Type: 1, Char: 1}, 8, 8},
		{api.Head{Version: 1, Std: 1, Type: 1, Char: 1}, 8, 8},
		{api.Head{Version: 1, Ut: 1, Std: 1, Type: 1, Char: 1}, 9, 9},
		{api.Head{Version: 1, Ut: 64, Type: 64, Char: 1}, 449, 449},
		{api.Head{Version: 1, Std: 64, Type: 64, Char: 1}, 449, 449},
		{api.Head{Version: 4, Time: 2000, Type: 1, Char: 1}, 10007, 18007},
		{api.Head{Version: 4, Leap: 201, Type: 1, Char: 1}, 1615, 2419},
		{api.Head{Version: 4, Type: 64, Char: 1}, 385, 385},
		{api.Head{Version: 4, Type: 1, Char: 256}, 262, 262},
		{different, 1180 + 216 + 12 + 8 + 2, 2124 + 324 + 12 + 8 + 2},
		{greatest, 10000 + 1608 + 384 + 256 + 128, 18000 + 2412 + 384 + 256 + 128},
	} {
		for version := 1; version <= 4; version++ {
			x.h.Version = version
			checkSize(t, x.h, 4, x.small)
			checkSize(t, x.h, 8, x.great)
		}
	}
}

// P15.3: each count alone, and with others, at both sizes.
func TestSizeOfEachCount(t *testing.T) {
	for _, base := range []api.Head{smallest, different, greatest} {
		base.Ut, base.Std = 0, 0
		for _, f := range fields() {
			h := base
			for n := f.low; n <= f.high; n++ {
				*f.of(&h) = n
				checkSize(t, h, 4, slowSize(h, 4))
				checkSize(t, h, 8, slowSize(h, 8))
			}
		}
	}
}

// P15.3: of other sizes it is 0, whatever the head.
func TestSizeOfOtherSizes(t *testing.T) {
	for _, h := range []api.Head{smallest, different, greatest, {}} {
		for _, size := range []int{0, 1, 2, 3, 5, 6, 7, 9, 10, 12, 16, 32, 64, -1, -4, -8, 4 + 1<<8, 8 + 1<<8, 4 + 1<<32, 8 + 1<<32, 4 - 1<<32, 8 - 1<<32, least, least + 4, least + 8, most, most - 4, most - 8} {
			checkSize(t, h, size, 0)
		}
		for size := -300; size <= 300; size++ {
			checkSize(t, h, size, slowSize(h, size))
		}
	}
}

// P15.1, P15.3, P15.5: any heads, most of them nearly right, against the other ways; those that are right are read as they were laid.
func TestAnyHeads(t *testing.T) {
	r := rand.New(rand.NewSource(15))
	rights := 0
	for range 30000 {
		h := anyHead(r)
		if r.Intn(2) == 0 {
			f := fields()[r.Intn(5)]
			*f.of(&h) = append(far(), f.low-1, f.high+1, f.high)[r.Intn(len(far())+3)]
		}
		switch r.Intn(8) {
		case 0:
			h.Ut = h.Type + r.Intn(3) - 1
		case 1:
			h.Std = h.Type + r.Intn(3) - 1
		}
		if slowRight(h) {
			rights++
		}
		checkEither(t, h)
	}
	// Both must be often enough to say something.
	if rights < 5000 || rights > 25000 {
		t.Errorf("of 30000 heads %d are right", rights)
	}
}

// P15.5: heads that are right are read as they were, and heads that differ have bytes that do.
func TestHeadsAreReadAsTheyWereLaid(t *testing.T) {
	r := rand.New(rand.NewSource(155))
	seen := map[string]api.Head{}
	for range 30000 {
		h := anyHead(r)
		b, ok := Encode(h)
		if len(b) != 44 || !ok {
			t.Fatalf("Encode(%+v): %d bytes, %t", h, len(b), ok)
		}
		if g, ok := Decode(b); g != h || !ok {
			t.Fatalf("%+v was read as %+v, %t", h, g, ok)
		}
		if g, has := seen[string(b)]; has && g != h {
			t.Fatalf("%+v and %+v have the same bytes", g, h)
		}
		seen[string(b)] = h
	}
}

// P15.2, P15.5: any bytes, most of them nearly those of a head, against the other way; what is read is laid so again.
func TestAnyBytes(t *testing.T) {
	r := rand.New(rand.NewSource(551))
	rights := 0
	for range 30000 {
		b := append(slowBytes(anyHead(r)), make([]byte, r.Intn(20))...)
		r.Read(b[44:])
		for range r.Intn(3) {
			b[r.Intn(len(b))] = byte([]int{0, 1, 2, 50, 255, r.Intn(256)}[r.Intn(6)])
		}
		if r.Intn(20) == 0 {
			b = b[:r.Intn(len(b))]
		}
		if r.Intn(20) == 0 {
			r.Read(b)
		}
		h, ok := Decode(b)
		want, right := slowDecode(b)
		if h != want || ok != right {
			t.Fatalf("Decode(% x): %+v, %t; want %+v, %t", b, h, ok, want, right)
		}
		if !ok {
			continue
		}
		rights++
		if again, is := Encode(h); !bytes.Equal(again, b[:44]) || !is {
			t.Fatalf("% x was read, and laid as % x", b, again)
		}
	}
	// Both must be often enough to say something.
	if rights < 5000 || rights > 25000 {
		t.Errorf("of 30000 rows of bytes %d begin with a head", rights)
	}
}

// P15.4, W6: the bytes that are handed to Decode stay as they were, with their spare room and what stands ahead of them, whether they are a head's or not.
func TestNothingIsChanged(t *testing.T) {
	wrong := slowBytes(different)
	wrong[9] = 1
	for _, b := range [][]byte{{}, slowBytes(smallest), slowBytes(different), slowBytes(greatest), wrong, slowBytes(different)[:43], append(slowBytes(different), "behind"...), append(wrong, "behind"...)} {
		for _, room := range []int{0, 1, 4, 44, 100} {
			whole := slices.Concat([]byte{0xa5}, b, bytes.Repeat([]byte{0xa5}, room))
			had := slices.Clone(whole)
			some := whole[1 : 1+len(b)]
			first, ok := Decode(some)
			second, is := Decode(some)
			if !bytes.Equal(whole, had) {
				t.Errorf("% x became % x", had, whole)
			}
			if first != second || ok != is {
				t.Errorf("Decode(% x): %+v, %t; and again %+v, %t", b, first, ok, second, is)
			}
			clear(whole)
			if want, _ := slowDecode(b); first != want {
				t.Errorf("Decode(% x) changed with its bytes", b)
			}
		}
	}
}

// P15.4, W6: what Encode answers is new memory each time, its spare room too; nor does what is read of it hang on it.
func TestAnswersAreNewMemory(t *testing.T) {
	for _, h := range []api.Head{smallest, different, greatest} {
		want := slowBytes(h)
		first, _ := Encode(h)
		second, _ := Encode(h)
		read, _ := Decode(second)
		first = first[:cap(first)]
		for k := range first {
			first[k] = 0x5a
		}
		if !bytes.Equal(second, want) {
			t.Errorf("two answers of Encode(%+v) share memory", h)
		}
		third, _ := Encode(h)
		if !bytes.Equal(third, want) {
			t.Errorf("Encode(%+v) hangs on what it answered earlier: % x", h, third)
		}
		clear(second[:cap(second)])
		if read != h || !bytes.Equal(third, want) {
			t.Errorf("%+v changed with the bytes it was read from", h)
		}
	}
}

// W2: calls at the same time, of the same bytes, do not touch each other; the same call tells the same again.
func TestCallsAtTheSameTime(t *testing.T) {
	b := append(slowBytes(different), "behind"...)
	had := slices.Clone(b)
	var all sync.WaitGroup
	for k := range 16 {
		all.Go(func() {
			for range 200 {
				if h, ok := Decode(b); h != different || !ok {
					t.Errorf("%+v, %t, at the same time as others", h, ok)
				}
				h := api.Head{Version: 2, Time: k, Type: 1, Char: 4}
				x, ok := Encode(h)
				if !ok || !bytes.Equal(x, slowBytes(h)) || Size(h, 8) != 10+9*k || !Right(h) {
					t.Errorf("% x, %t, at the same time as others", x, ok)
				}
				clear(x)
			}
		})
	}
	all.Wait()
	if !bytes.Equal(b, had) {
		t.Errorf("% x became % x", had, b)
	}
}

// W1, P15.1 to P15.5: whatever bytes, numbers and size.
func FuzzHead(f *testing.F) {
	for _, h := range []api.Head{{}, smallest, different, greatest, {Version: least, Ut: most, Std: least, Leap: most, Time: least, Type: most, Char: least}} {
		for _, size := range []int{0, 4, 8, 16, least, most} {
			f.Add([]byte("TZif2"), h.Version, h.Ut, h.Std, h.Leap, h.Time, h.Type, h.Char, size)
			f.Add(slowBytes(different), h.Version, h.Ut, h.Std, h.Leap, h.Time, h.Type, h.Char, size)
			f.Add(slowBytes(greatest)[1:], h.Version, h.Ut, h.Std, h.Leap, h.Time, h.Type, h.Char, size)
		}
	}
	f.Fuzz(func(t *testing.T, b []byte, version, ut, std, leap, times, types, char, size int) {
		h := api.Head{Version: version, Ut: ut, Std: std, Leap: leap, Time: times, Type: types, Char: char}
		checkEither(t, h)
		checkSize(t, h, size, slowSize(h, size))
		want, ok := slowDecode(b)
		if !ok {
			if g, is := Decode(b); g != want || is {
				t.Errorf("Decode(% x): %+v, %t", b, g, is)
			}
			return
		}
		checkDecode(t, b, want)
		checkRight(t, want, b[:44])
		checkSize(t, want, size, slowSize(want, size))
	})
}
