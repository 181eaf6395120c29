package octet

import (
	"bytes"
	"encoding/binary"
	"math/big"
	"math/rand"
	"slices"
	"sync"
	"testing"

	"epact/api"
)

const (
	most  = api.MaxInt
	least = api.MinInt
)

// badSizes tells sizes of which there are no numbers.
func badSizes() []int {
	return []int{0, 2, 3, 5, 6, 7, 9, 10, 12, 15, 16, 24, 32, 64, 128, 255, 256, 257, 260, 264, -1, -2, -4, -8, 1<<8 + 1, 1<<16 + 4, 1<<32 + 1, 1<<32 + 4, 1<<32 + 8, 1<<40 + 8, -1<<32 + 1, -1<<32 + 4, -1<<32 + 8, most, most - 7, least, least + 1, least + 4, least + 8}
}

// edges tells numbers about each power of 2, of both signs, and about the ends.
func edges() []int {
	all := []int{0, least, least + 1, most, most - 1}
	for k := range 63 {
		for d := -2; d <= 2; d++ {
			all = append(all, 1<<k+d, -1<<k+d)
		}
	}
	return all
}

// slowFits is another way to tell whether n has bytes of that size, by numbers that have no end.
func slowFits(n, size int) bool {
	one := big.NewInt(1)
	low, high := new(big.Int), new(big.Int)
	switch size {
	case 1:
		high.SetInt64(255)
	case 4, 8:
		high.Lsh(one, uint(8*size-1))
		low.Neg(high)
		high.Sub(high, one)
	default:
		return false
	}
	x := big.NewInt(int64(n))
	return x.Cmp(low) >= 0 && x.Cmp(high) <= 0
}

// slowBytes is another way to the bytes of n, which has some of that size: of n, or of n and 2^32 or 2^64, again and again what is left by 256.
func slowBytes(n, size int) []byte {
	x := big.NewInt(int64(n))
	if n < 0 {
		x.Add(x, new(big.Int).Lsh(big.NewInt(1), uint(8*size)))
	}
	b := make([]byte, size)
	for k := size - 1; k >= 0; k-- {
		digit := new(big.Int)
		x.DivMod(x, big.NewInt(256), digit)
		b[k] = byte(digit.Int64())
	}
	return b
}

// slowNumber is another way to the number of so many bytes, by the library.
func slowNumber(b []byte) int {
	switch len(b) {
	case 1:
		return int(b[0])
	case 4:
		return int(int32(binary.BigEndian.Uint32(b)))
	default:
		return int(int64(binary.BigEndian.Uint64(b)))
	}
}

func checkPut(t *testing.T, b []byte, n, size int, want []byte, ok bool) {
	t.Helper()
	had := slices.Clone(b)
	if x, is := Put(b, n, size); !bytes.Equal(x, want) || is != ok {
		t.Errorf("Put(% x, %d, %d): % x, %t; want % x, %t", had, n, size, x, is, want, ok)
	}
	if !bytes.Equal(b, had) {
		t.Errorf("Put(% x, %d, %d) changed it to % x", had, n, size, b)
	}
}

// checkSlowPut asks Put behind some bytes and behind none, against the slow ways.
func checkSlowPut(t *testing.T, n, size int) {
	t.Helper()
	ok := slowFits(n, size)
	for _, b := range [][]byte{nil, {}, []byte("x"), {0, 255, 128, 7, 0}} {
		want := slices.Clone(b)
		if ok {
			want = append(want, slowBytes(n, size)...)
		}
		checkPut(t, b, n, size, want, ok)
	}
}

// checkState asks twice how many are left and whether r has not failed: that changes nothing.
func checkState(t *testing.T, r *Reader, left int, ok bool) {
	t.Helper()
	for range 2 {
		if n, is := r.Left(), r.Ok(); n != left || is != ok {
			t.Errorf("Left, Ok: %d, %t; want %d, %t", n, is, left, ok)
		}
	}
}

// checkNum asks r for a number that it has.
func checkNum(t *testing.T, r *Reader, size, want, left int) {
	t.Helper()
	if n := r.Num(size); n != want {
		t.Errorf("Num(%d): %d; want %d", size, n, want)
	}
	checkState(t, r, left, true)
}

// checkTake asks r for bytes that it has.
func checkTake(t *testing.T, r *Reader, want []byte, left int) {
	t.Helper()
	if b := r.Take(len(want)); !bytes.Equal(b, want) {
		t.Errorf("Take(%d): % x; want % x", len(want), b, want)
	}
	checkState(t, r, left, true)
}

// checkFailed asks a reader that has failed for anything: there is none, and that stays so.
func checkFailed(t *testing.T, r *Reader) {
	t.Helper()
	checkState(t, r, 0, false)
	for range 2 {
		for _, n := range append(badSizes(), 0, 1, 4, 8) {
			if x := r.Num(n); x != 0 {
				t.Errorf("Num(%d) of a reader that has failed: %d", n, x)
			}
			if b := r.Take(n); len(b) != 0 {
				t.Errorf("Take(%d) of a reader that has failed: % x", n, b)
			}
			checkState(t, r, 0, false)
		}
	}
}

// failNum asks r for a number that it has not.
func failNum(t *testing.T, r *Reader, size int) {
	t.Helper()
	if n := r.Num(size); n != 0 {
		t.Errorf("Num(%d): %d; want 0", size, n)
	}
	checkFailed(t, r)
}

// failTake asks r for bytes that it has not.
func failTake(t *testing.T, r *Reader, n int) {
	t.Helper()
	if b := r.Take(n); len(b) != 0 {
		t.Errorf("Take(%d): % x; want none", n, b)
	}
	checkFailed(t, r)
}

// counted tells n bytes that rise from 1 on.
func counted(n int) []byte {
	b := make([]byte, n)
	for k := range b {
		b[k] = byte(k + 1)
	}
	return b
}

// P13.1: written out: the chapter's example, and each size at both of its edges, in the middle, and below 0.
func TestPutByHand(t *testing.T) {
	for _, x := range []struct {
		n, size int
		want    string
	}{
		{-1, 4, "\xff\xff\xff\xff"},
		{0, 1, "\x00"}, {1, 1, "\x01"}, {127, 1, "\x7f"}, {128, 1, "\x80"}, {254, 1, "\xfe"}, {255, 1, "\xff"}, {'T', 1, "T"},
		{0, 4, "\x00\x00\x00\x00"}, {1, 4, "\x00\x00\x00\x01"}, {255, 4, "\x00\x00\x00\xff"}, {256, 4, "\x00\x00\x01\x00"}, {0x01020304, 4, "\x01\x02\x03\x04"}, {-0x01020304, 4, "\xfe\xfd\xfc\xfc"},
		{1<<31 - 1, 4, "\x7f\xff\xff\xff"}, {1<<31 - 2, 4, "\x7f\xff\xff\xfe"}, {-1 << 31, 4, "\x80\x00\x00\x00"}, {-1<<31 + 1, 4, "\x80\x00\x00\x01"}, {-2, 4, "\xff\xff\xff\xfe"}, {-128, 4, "\xff\xff\xff\x80"}, {-256, 4, "\xff\xff\xff\x00"}, {-257, 4, "\xff\xff\xfe\xff"}, {-18000, 4, "\xff\xff\xb9\xb0"},
		{0, 8, "\x00\x00\x00\x00\x00\x00\x00\x00"}, {1, 8, "\x00\x00\x00\x00\x00\x00\x00\x01"}, {255, 8, "\x00\x00\x00\x00\x00\x00\x00\xff"}, {256, 8, "\x00\x00\x00\x00\x00\x00\x01\x00"}, {0x0102030405060708, 8, "\x01\x02\x03\x04\x05\x06\x07\x08"}, {-0x0102030405060708, 8, "\xfe\xfd\xfc\xfb\xfa\xf9\xf8\xf8"},
		{1<<31 - 1, 8, "\x00\x00\x00\x00\x7f\xff\xff\xff"}, {1 << 31, 8, "\x00\x00\x00\x00\x80\x00\x00\x00"}, {1<<32 - 1, 8, "\x00\x00\x00\x00\xff\xff\xff\xff"}, {1 << 32, 8, "\x00\x00\x00\x01\x00\x00\x00\x00"}, {-1 << 31, 8, "\xff\xff\xff\xff\x80\x00\x00\x00"}, {-1<<31 - 1, 8, "\xff\xff\xff\xff\x7f\xff\xff\xff"}, {-1 << 32, 8, "\xff\xff\xff\xff\x00\x00\x00\x00"},
		{-1, 8, "\xff\xff\xff\xff\xff\xff\xff\xff"}, {-2, 8, "\xff\xff\xff\xff\xff\xff\xff\xfe"}, {most, 8, "\x7f\xff\xff\xff\xff\xff\xff\xff"}, {most - 1, 8, "\x7f\xff\xff\xff\xff\xff\xff\xfe"}, {least, 8, "\x80\x00\x00\x00\x00\x00\x00\x00"}, {least + 1, 8, "\x80\x00\x00\x00\x00\x00\x00\x01"},
		{1435708800, 4, "\x55\x93\x2d\x80"}, {1483228826, 8, "\x00\x00\x00\x00\x58\x68\x46\x9a"},
	} {
		checkPut(t, nil, x.n, x.size, []byte(x.want), true)
		checkPut(t, []byte("x"), x.n, x.size, []byte("x"+x.want), true)
		checkNum(t, Open([]byte(x.want)), x.size, x.n, 0)
	}
}

// P13.1: written out: one beyond each edge, far beyond, and numbers that would fit but for bits far up.
func TestPutOfOtherNumbers(t *testing.T) {
	for size, numbers := range map[int][]int{
		1: {-1, 256, -2, -128, -255, -256, 257, 511, 512, 1 << 16, 1<<16 + 1, 1 << 31, 1 << 32, 1<<32 + 5, -1<<32 + 5, 1 << 62, most, most - 1, least, least + 1},
		4: {1 << 31, -1<<31 - 1, 1<<31 + 1, -1<<31 - 2, 1<<32 - 1, 1 << 32, 1<<32 + 5, -1 << 32, -1<<32 + 5, -1<<32 - 1, 1 << 62, most, most - 1, least, least + 1},
	} {
		for _, n := range numbers {
			checkPut(t, nil, n, size, nil, false)
			checkPut(t, []byte("xyz"), n, size, []byte("xyz"), false)
		}
	}
}

// P13.1: sizes that may not be, of numbers small and great: just b's bytes.
func TestPutOfOtherSizes(t *testing.T) {
	for _, size := range badSizes() {
		for _, n := range []int{0, 1, -1, 255, 256, 1<<31 - 1, -1 << 31, 1 << 32, size, most, least} {
			checkPut(t, nil, n, size, nil, false)
			checkPut(t, []byte{}, n, size, nil, false)
			checkPut(t, []byte("xyz"), n, size, []byte("xyz"), false)
			checkPut(t, make([]byte, 20), n, size, make([]byte, 20), false)
		}
	}
}

// P13.1: about each power of 2, of each size about those that may be, against the slow ways.
func TestPutAtEdges(t *testing.T) {
	for _, n := range edges() {
		for size := -2; size <= 18; size++ {
			checkSlowPut(t, n, size)
		}
	}
}

// P13.1: many small numbers of each size, and any at all.
func TestPutOfManyNumbers(t *testing.T) {
	r := rand.New(rand.NewSource(13))
	for n := -1100; n < 1100; n++ {
		for _, size := range []int{1, 4, 8} {
			checkSlowPut(t, n, size)
			checkSlowPut(t, int(r.Uint64()>>r.Intn(64)), size)
			checkSlowPut(t, -int(r.Uint64()>>r.Intn(64)), size)
		}
	}
}

// P13.1: whatever b is, its bytes stand ahead, all of them: of any bytes, of each length.
func TestPutBehindBytes(t *testing.T) {
	for n := range 300 {
		b := make([]byte, n)
		for k := range b {
			b[k] = byte(255 - k*7)
		}
		checkPut(t, b, 200, 1, append(slices.Clone(b), 200), true)
		checkPut(t, b, -3, 4, append(slices.Clone(b), 255, 255, 255, 253), true)
		checkPut(t, b, -3, 8, append(slices.Clone(b), 255, 255, 255, 255, 255, 255, 255, 253), true)
		checkPut(t, b, -3, 1, b, false)
		checkPut(t, b, 1<<31, 4, b, false)
		checkPut(t, b, n, 2, b, false)
	}
}

// P13.2: written out: a number of just enough bytes, of more, and of those whose highest bit is set.
func TestNumByHand(t *testing.T) {
	for _, x := range []struct {
		b    string
		size int
		want int
	}{
		{"\x00", 1, 0}, {"\x7f", 1, 127}, {"\x80", 1, 128}, {"\xff", 1, 255}, {"T", 1, 84},
		{"\x00\x00\x00\x00", 4, 0}, {"\x00\x00\x00\x80", 4, 128}, {"\x00\x00\xff\xff", 4, 65535}, {"\x00\xff\xff\xff", 4, 1<<24 - 1}, {"\x7f\xff\xff\xff", 4, 1<<31 - 1},
		{"\x80\x00\x00\x00", 4, -1 << 31}, {"\x80\x00\x00\x01", 4, -1<<31 + 1}, {"\xff\x00\x00\x00", 4, -1 << 24}, {"\xff\xff\xff\xff", 4, -1}, {"\xff\xff\xb9\xb0", 4, -18000}, {"\x81\x02\x03\x04", 4, 0x81020304 - 1<<32},
		{"\x00\x00\x00\x00\x00\x00\x00\x00", 8, 0}, {"\x00\x00\x00\x00\x80\x00\x00\x00", 8, 1 << 31}, {"\x00\x00\x00\x00\xff\xff\xff\xff", 8, 1<<32 - 1}, {"\x7f\xff\xff\xff\xff\xff\xff\xff", 8, most},
		{"\x80\x00\x00\x00\x00\x00\x00\x00", 8, least}, {"\x80\x00\x00\x00\x00\x00\x00\x01", 8, least + 1}, {"\xff\x00\x00\x00\x00\x00\x00\x00", 8, -1 << 56}, {"\xff\xff\xff\xff\x00\x00\x00\x00", 8, -1 << 32}, {"\xff\xff\xff\xff\xff\xff\xff\xff", 8, -1}, {"\xff\xff\xff\xff\x7f\xff\xff\xff", 8, -1<<31 - 1},
	} {
		b := []byte(x.b)
		checkNum(t, Open(b), x.size, x.want, 0)
		checkNum(t, Open(append(b, 200)), x.size, x.want, 1)
		checkNum(t, Open(append(b, make([]byte, 100)...)), x.size, x.want, 100)
		r := Open(append([]byte{9, 255}, b...))
		checkTake(t, r, []byte{9, 255}, x.size)
		checkNum(t, r, x.size, x.want, 0)
		failNum(t, r, 1)
	}
}

// P13.2: each byte at each place of a number, among noughts, among the highest bytes, and among others.
func TestNumOfEachByte(t *testing.T) {
	for _, size := range []int{1, 4, 8} {
		for _, b := range [][]byte{make([]byte, size), bytes.Repeat([]byte{255}, size), bytes.Repeat([]byte{128}, size), counted(size)} {
			for k := range b {
				had := b[k]
				for one := range 256 {
					b[k] = byte(one)
					checkNum(t, Open(b), size, slowNumber(b), 0)
					checkPut(t, nil, slowNumber(b), size, b, true)
				}
				b[k] = had
			}
		}
	}
}

// P13.2: numbers of each size with each count of bytes: too few fail, just enough and more do not.
func TestNumOfEachLength(t *testing.T) {
	for n := range 20 {
		b := counted(n)
		for _, size := range []int{1, 4, 8} {
			if n < size {
				failNum(t, Open(b), size)
				continue
			}
			r := Open(b)
			checkNum(t, r, size, slowNumber(b[:size]), n-size)
			checkTake(t, r, b[size:], 0)
		}
	}
}

// P13.2: sizes that may not be fail, however many bytes there are, and whatever was read ahead.
func TestNumOfOtherSizes(t *testing.T) {
	for _, size := range badSizes() {
		for _, n := range []int{0, 1, 2, 3, 4, 7, 8, 16, 20, 300} {
			failNum(t, Open(counted(n)), size)
			failNum(t, Open(make([]byte, n)), size)
			if n > 4 {
				r := Open(counted(n))
				checkNum(t, r, 4, 0x01020304, n-4)
				failNum(t, r, size)
			}
		}
	}
}

// P13.2: written out: none, some, all, one too many, fewer than none, and as many as there are numbers.
func TestTakeByHand(t *testing.T) {
	b := []byte{0, 255, 128, 7, 0}
	for n := range 6 {
		r := Open(b)
		checkTake(t, r, b[:n], 5-n)
		checkTake(t, r, nil, 5-n)
		checkTake(t, r, b[n:], 0)
		checkTake(t, r, nil, 0)
		failTake(t, r, 1)
	}
	for _, n := range []int{6, 7, 100, 1 << 16, 1<<16 + 2, 1 << 32, 1<<32 + 2, most, most - 1, -1, -2, -5, -6, -1 << 32, -1<<32 + 2, least, least + 1, least + 2} {
		failTake(t, Open(b), n)
		r := Open(b)
		checkTake(t, r, b[:3], 2)
		failTake(t, r, n)
	}
	r := Open(b)
	checkTake(t, r, b[:3], 2)
	failTake(t, r, 3)
}

// P13.2: of each count of bytes each count, behind each count that was taken.
func TestTakeOfEachLength(t *testing.T) {
	for n := range 24 {
		b := counted(n)
		for first := range n + 1 {
			for second := -1; second <= n-first+1; second++ {
				r := Open(b)
				checkTake(t, r, b[:first], n-first)
				if second < 0 || second > n-first {
					failTake(t, r, second)
					continue
				}
				checkTake(t, r, b[first:first+second], n-first-second)
				checkTake(t, r, b[first+second:], 0)
			}
		}
	}
}

// P13.2, W5: of no bytes, nil or not, there are none to be had; that alone is no failure.
func TestReaderOfNoBytes(t *testing.T) {
	for _, b := range [][]byte{nil, {}, make([]byte, 0, 20), counted(5)[:0], counted(5)[5:]} {
		checkState(t, Open(b), 0, true)
		r := Open(b)
		checkTake(t, r, nil, 0)
		checkTake(t, r, []byte{}, 0)
		failNum(t, r, 1)
		for _, size := range append(badSizes(), 1, 4, 8) {
			failNum(t, Open(b), size)
		}
		for _, n := range []int{1, 2, 5, 20, most, -1, least} {
			failTake(t, Open(b), n)
		}
	}
}

// P13.2, P13.3: each kind of failure, from the beginning and further on, leaves nothing, though there were bytes enough for what is asked next.
func TestEachFailureStays(t *testing.T) {
	for _, fail := range []func(r *Reader){
		func(r *Reader) { failNum(t, r, 2) },
		func(r *Reader) { failNum(t, r, 0) },
		func(r *Reader) { failNum(t, r, -1) },
		func(r *Reader) { failTake(t, r, -1) },
		func(r *Reader) { failTake(t, r, least) },
		func(r *Reader) { failTake(t, r, most) },
		func(r *Reader) { failTake(t, r, r.Left()+1) },
		func(r *Reader) {
			r.Take(r.Left() - 3)
			failNum(t, r, 4)
		},
		func(r *Reader) {
			r.Take(r.Left() - 7)
			failNum(t, r, 8)
		},
		func(r *Reader) {
			r.Take(r.Left())
			failNum(t, r, 1)
		},
	} {
		b := counted(40)
		fail(Open(b))
		r := Open(b)
		checkNum(t, r, 1, 1, 39)
		checkNum(t, r, 8, 0x0203040506070809, 31)
		checkTake(t, r, b[9:12], 28)
		fail(r)
		// Another reader of the same bytes has not failed.
		checkNum(t, Open(b), 4, 0x01020304, 36)
	}
}

// P13.3: Left and Ok change nothing, however often they are asked, ahead of all calls and between them.
func TestAskingChangesNothing(t *testing.T) {
	b := counted(13)
	asked, not := Open(b), Open(b)
	for _, size := range []int{4, 1, 8, 1} {
		for range 100 {
			_, _ = asked.Left(), asked.Ok()
		}
		x, y := asked.Num(size), not.Num(size)
		if x != y {
			t.Errorf("Num(%d): %d, and %d where Left and Ok were not asked", size, x, y)
		}
	}
	checkFailed(t, asked)
	checkFailed(t, not)
	if r := Open(b); r.Left() != 13 || !r.Ok() || r.Left() != 13 {
		t.Error("a reader that was just opened")
	}
}

// P13.2, W2: readers of the same bytes go each its own way.
func TestReadersAreTheirOwn(t *testing.T) {
	b := counted(30)
	first, second, third := Open(b), Open(b), Open(b)
	checkTake(t, first, b[:10], 20)
	checkNum(t, second, 4, 0x01020304, 26)
	failTake(t, third, 31)
	checkTake(t, first, b[10:], 0)
	checkNum(t, second, 1, 5, 25)
	checkState(t, second, 25, true)
}

// piece is a number of a size, or, where that is 0, bytes.
type piece struct {
	n, size int
	b       []byte
}

// anyPieces tells pieces of all kinds.
func anyPieces(r *rand.Rand) []piece {
	all := edges()
	var l []piece
	for range r.Intn(30) {
		switch size := []int{0, 1, 4, 8}[r.Intn(4)]; size {
		case 0:
			b := make([]byte, r.Intn(12))
			r.Read(b)
			l = append(l, piece{b: b})
		default:
			n := all[r.Intn(len(all))]
			if r.Intn(2) == 0 {
				n = int(r.Uint64())
			}
			if !slowFits(n, size) {
				n = slowNumber(slowBytes(n, 8)[8-size:])
			}
			l = append(l, piece{n: n, size: size})
		}
	}
	return l
}

// layPieces tells the bytes of all pieces, one behind the other, the numbers by Put.
func layPieces(t *testing.T, l []piece) []byte {
	t.Helper()
	var b []byte
	for _, p := range l {
		ok := true
		if p.size == 0 {
			b = append(b, p.b...)
		} else {
			b, ok = Put(b, p.n, p.size)
		}
		if !ok {
			t.Fatalf("no bytes of %d in %d", p.n, p.size)
		}
	}
	return b
}

// P13.5: what was laid, numbers and bytes one behind the other, is read as it was, and nothing is left.
func TestWhatWasLaidIsRead(t *testing.T) {
	r := rand.New(rand.NewSource(135))
	for range 3000 {
		l := anyPieces(r)
		b := layPieces(t, l)
		x := Open(b)
		left := len(b)
		for _, p := range l {
			left -= p.size + len(p.b)
			if p.size == 0 {
				checkTake(t, x, p.b, left)
			} else {
				checkNum(t, x, p.size, p.n, left)
			}
		}
		checkState(t, x, 0, true)
		failNum(t, x, 1)
	}
}

// P13.5: whatever bytes are read as numbers and bytes of whatever sizes, they are laid so again.
func TestWhatWasReadIsLaid(t *testing.T) {
	r := rand.New(rand.NewSource(531))
	for range 3000 {
		b := make([]byte, r.Intn(100))
		r.Read(b)
		x := Open(b)
		var l []piece
		for x.Left() > 0 {
			size := []int{0, 1, 4, 8}[r.Intn(4)]
			if size == 0 || size > x.Left() {
				l = append(l, piece{b: x.Take(min(r.Intn(5), x.Left()))})
			} else {
				l = append(l, piece{n: x.Num(size), size: size})
			}
		}
		checkState(t, x, 0, true)
		if again := layPieces(t, l); !bytes.Equal(again, b) {
			t.Fatalf("% x was read, and laid as % x", b, again)
		}
	}
}

// roomy tells b with so much spare room, which is filled, and the whole.
func roomy(b []byte, room int) ([]byte, []byte) {
	whole := slices.Concat([]byte{0xa5}, b, bytes.Repeat([]byte{0xa5}, room))
	return whole[1 : 1+len(b)], whole
}

// P13.4, W6: what is handed in stays as it was, with its spare room and what stands ahead of it.
func TestNothingIsChanged(t *testing.T) {
	for _, n := range []int{0, 1, 5, 8, 40} {
		for _, room := range []int{0, 1, 3, 4, 7, 8, 9, 100} {
			b, whole := roomy(counted(n), room)
			had := slices.Clone(whole)
			for _, size := range append(badSizes(), 1, 4, 8) {
				for _, number := range []int{0, 200, -1, 256, most, least} {
					_, _ = Put(b, number, size)
				}
				Open(b).Num(size)
				Open(b).Take(size)
			}
			for k := range n + 1 {
				spoil(Open(b).Take(k))
			}
			if !bytes.Equal(whole, had) {
				t.Errorf("% x became % x", had, whole)
			}
		}
	}
}

// spoil changes b and all of its spare room.
func spoil(b []byte) {
	b = b[:cap(b)]
	for k := range b {
		b[k] = 0x5a
	}
}

// P13.4, W6: what Put answers, with true or false, shares no memory with b or with another answer, spare room neither; nor does it change with them.
func TestPutSharesNothing(t *testing.T) {
	for _, n := range []int{0, 1, 5, 8, 40} {
		for _, room := range []int{0, 1, 8, 100} {
			for _, x := range []struct{ n, size int }{{7, 1}, {-7, 4}, {-7, 8}, {-7, 1}, {1 << 31, 4}, {7, 0}, {7, 2}, {7, -1}} {
				b, whole := roomy(counted(n), room)
				had := slices.Clone(whole)
				want := counted(n)
				if slowFits(x.n, x.size) {
					want = append(want, slowBytes(x.n, x.size)...)
				}
				first, _ := Put(b, x.n, x.size)
				second, _ := Put(b, x.n, x.size)
				behind, _ := Put(second, 9, 1)
				spoil(first)
				if !bytes.Equal(whole, had) || !bytes.Equal(second, want) {
					t.Errorf("Put(% x, %d, %d) shares memory with it, or with another answer", had, x.n, x.size)
				}
				clear(whole)
				if !bytes.Equal(second, want) {
					t.Errorf("Put of %d bytes, %d, %d kept them", n, x.n, x.size)
				}
				spoil(second)
				if !bytes.Equal(behind, append(want, 9)) {
					t.Errorf("Put behind what Put of %d bytes, %d, %d answered shares it", n, x.n, x.size)
				}
			}
		}
	}
}

// P13.4, W6: two numbers laid behind the same bytes do not touch each other.
func TestPutTwiceBehindTheSame(t *testing.T) {
	b := []byte{1}
	for k := range 50 {
		one, _ := Put(b, 2, 1)
		other, _ := Put(b, 3, 4)
		if want := append(slices.Clone(b), 2); !bytes.Equal(one, want) {
			t.Errorf("% x; want % x", one, want)
		}
		if want := append(slices.Clone(b), 0, 0, 0, 3); !bytes.Equal(other, want) {
			t.Errorf("% x; want % x", other, want)
		}
		b, _ = Put(b, k, 1)
	}
}

// P13.4, W6: a reader tells the same, though what was handed to Open, or what it answered, is changed.
func TestReadersKeepNothing(t *testing.T) {
	for _, room := range []int{0, 1, 100} {
		b, whole := roomy(counted(40), room)
		r, other := Open(b), Open(b)
		checkNum(t, r, 4, 0x01020304, 36)
		for k := range whole {
			whole[k] = 0xee
		}
		checkNum(t, r, 8, 0x05060708090a0b0c, 28)
		all := r.Take(0)
		spoil(all)
		first := r.Take(5)
		had := slices.Clone(first)
		spoil(first)
		second := r.Take(5)
		if !bytes.Equal(had, counted(17)[12:]) || !bytes.Equal(second, counted(22)[17:]) {
			t.Errorf("Take: % x, % x", had, second)
		}
		checkNum(t, r, 1, 23, 17)
		third := r.Take(17)
		spoil(second)
		if !bytes.Equal(third, counted(40)[23:]) {
			t.Errorf("Take: % x", third)
		}
		checkTake(t, other, counted(40), 0)
		if bytes.IndexByte(whole, 0x5a) >= 0 {
			t.Error("what Take answers shares memory with what was handed to Open")
		}
	}
}

// P13.4, W6: bytes that were taken stay as they were when the reader goes on, fails, or is asked again.
func TestWhatWasTakenStays(t *testing.T) {
	b := counted(60)
	r := Open(b)
	var taken [][]byte
	for k := range 8 {
		taken = append(taken, r.Take(k))
	}
	r.Num(8)
	failTake(t, r, 100)
	clear(b)
	at := 0
	for k, x := range taken {
		if !bytes.Equal(x, counted(60)[at:at+k]) {
			t.Errorf("the %d bytes from %d on: % x", k, at, x)
		}
		at += k
	}
}

// P13.2, P13.3: any calls in any order, against another reader that goes by a place.
func TestAnyCalls(t *testing.T) {
	r := rand.New(rand.NewSource(1313))
	failures := 0
	for range 5000 {
		b := make([]byte, r.Intn(60))
		r.Read(b)
		x := Open(b)
		at, failed := 0, false
		for range 6 {
			n := []int{1, 4, 8, r.Intn(20) - 1}[r.Intn(4)]
			isNum := r.Intn(2) == 0
			had := failed || n < 0 || at+n > len(b) || isNum && n != 1 && n != 4 && n != 8
			switch {
			case had:
				at, failed = len(b), true
				if isNum && x.Num(n) != 0 || !isNum && len(x.Take(n)) != 0 {
					t.Fatalf("% x: at %d there is something", b, at)
				}
			case isNum:
				if k := x.Num(n); k != slowNumber(b[at:at+n]) {
					t.Fatalf("% x: Num(%d) at %d: %d", b, n, at, k)
				}
				at += n
			default:
				if y := x.Take(n); !bytes.Equal(y, b[at:at+n]) {
					t.Fatalf("% x: Take(%d) at %d: % x", b, n, at, y)
				}
				at += n
			}
			checkState(t, x, len(b)-at, !failed)
		}
		if failed {
			failures++
		}
	}
	// Both must be often enough to say something.
	if failures < 1000 || failures > 4000 {
		t.Errorf("of 5000 readers %d failed", failures)
	}
}

// W2: calls at the same time, each of a reader of its own, do not touch each other, nor the bytes and the spare room that they share.
func TestCallsAtTheSameTime(t *testing.T) {
	b, whole := roomy(counted(16), 8)
	had := slices.Clone(whole)
	var all sync.WaitGroup
	for k := range 16 {
		all.Go(func() {
			for range 200 {
				r := Open(b)
				first := r.Take(k)
				if n := r.Num(1); n != k+1 || r.Left() != 15-k || !r.Ok() || !bytes.Equal(first, counted(k)) {
					t.Errorf("% x, %d, at the same time as others", first, n)
				}
				x, ok := Put(b, -k, 4)
				if !ok || slowNumber(x[16:]) != -k || !bytes.Equal(x[:16], counted(16)) {
					t.Errorf("% x, at the same time as others", x)
				}
				spoil(first)
				spoil(x)
			}
		})
	}
	all.Wait()
	if !bytes.Equal(whole, had) {
		t.Errorf("% x became % x", had, whole)
	}
}

// W1, P13.1 to P13.5: whatever bytes, number, sizes and counts.
func FuzzOctet(f *testing.F) {
	for _, n := range []int{0, 1, -1, 255, 256, 1<<31 - 1, 1 << 31, -1 << 31, -1<<31 - 1, most, least} {
		for _, size := range []int{0, 1, 2, 4, 8, 9, -1, most, least} {
			f.Add([]byte("\x00\xff\x80TZif\x00\x01"), n, size, 3)
			f.Add([]byte{}, n, size, n)
		}
	}
	f.Fuzz(func(t *testing.T, b []byte, n, size, count int) {
		checkSlowPut(t, n, size)
		if x, ok := Put(b, n, size); ok {
			r := Open(x)
			checkTake(t, r, b, size)
			checkNum(t, r, size, n, 0)
		} else {
			checkPut(t, b, n, size, b, false)
		}
		r := Open(b)
		if count < 0 || count > len(b) {
			failTake(t, r, count)
			return
		}
		checkTake(t, r, b[:count], len(b)-count)
		if size != 1 && size != 4 && size != 8 || size > len(b)-count {
			failNum(t, r, size)
			return
		}
		want := b[count : count+size]
		checkNum(t, r, size, slowNumber(want), len(b)-count-size)
		checkPut(t, b[:count], slowNumber(want), size, b[:count+size], true)
	})
}
