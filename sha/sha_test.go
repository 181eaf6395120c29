package sha

import (
	"bytes"
	"crypto/sha1"
	"encoding/binary"
	"encoding/hex"
	"slices"
	"strconv"
	"strings"
	"sync"
	"testing"
)

// kinds tells rows of n bytes: noughts, the highest bytes, those with the highest bit alone, all bytes in turn up and down, and bytes that look like what is padded.
func kinds(n int) [][]byte {
	up, down := make([]byte, n), make([]byte, n)
	for k := range n {
		up[k], down[k] = byte(k), byte(255-k)
	}
	mixed := make([]byte, n)
	for k := range n {
		mixed[k] = byte(k*k*31 + k*7 + n)
	}
	return [][]byte{make([]byte, n), bytes.Repeat([]byte{255}, n), bytes.Repeat([]byte{128}, n), up, down, mixed}
}

// digest is the same thing three times: as bytes, as words, in digits.
type digest struct {
	d     [20]byte
	words [5]uint32
	hex   string
}

func digests() []digest {
	return []digest{
		{[20]byte{}, [5]uint32{}, strings.Repeat("0", 40)},
		{[20]byte{19: 1}, [5]uint32{4: 1}, strings.Repeat("0", 39) + "1"},
		{[20]byte{0: 1}, [5]uint32{0: 0x01000000}, "01" + strings.Repeat("0", 38)},
		{[20]byte{0: 128}, [5]uint32{0: 0x80000000}, "80" + strings.Repeat("0", 38)},
		{[20]byte{0: 15, 3: 240}, [5]uint32{0: 0x0f0000f0}, "0f0000f0" + strings.Repeat("0", 32)},
		{[20]byte(bytes.Repeat([]byte{255}, 20)), [5]uint32{1<<32 - 1, 1<<32 - 1, 1<<32 - 1, 1<<32 - 1, 1<<32 - 1}, strings.Repeat("f", 40)},
		{[20]byte{1, 2, 3, 4, 5, 6, 7, 8, 9, 10, 11, 12, 13, 14, 15, 16, 17, 18, 19, 20}, [5]uint32{0x01020304, 0x05060708, 0x090a0b0c, 0x0d0e0f10, 0x11121314}, "0102030405060708090a0b0c0d0e0f1011121314"},
		{[20]byte{0x00, 0x00, 0x00, 0x07, 0x00, 0x00, 0x07, 0x00, 0x00, 0x07, 0x00, 0x00, 0x07, 0x00, 0x00, 0x00, 0x70, 0x00, 0x00, 0x07}, [5]uint32{0x7, 0x700, 0x70000, 0x7000000, 0x70000007}, "0000000700000700000700000700000070000007"},
		{[20]byte{0x01, 0x23, 0x45, 0x67, 0x89, 0xab, 0xcd, 0xef, 0xfe, 0xdc, 0xba, 0x98, 0x76, 0x54, 0x32, 0x10, 0xf0, 0xe1, 0xd2, 0xc3}, [5]uint32{0x01234567, 0x89abcdef, 0xfedcba98, 0x76543210, 0xf0e1d2c3}, "0123456789abcdeffedcba9876543210f0e1d2c3"},
	}
}

func checkSum(t *testing.T, want [20]byte, parts ...[]byte) {
	t.Helper()
	if d := Sum(parts...); d != want {
		t.Errorf("Sum of %d parts, %.80q: %x; want %x", len(parts), bytes.Join(parts, nil), d, want)
	}
}

func checkHex(t *testing.T, d [20]byte, want string) {
	t.Helper()
	if s := Hex(d); s != want {
		t.Errorf("Hex(%x): %q; want %q", d, s, want)
	}
}

func checkWords(t *testing.T, d [20]byte, want [5]uint32) {
	t.Helper()
	if w := Words(d); w != want {
		t.Errorf("Words(%x): %08x; want %08x", d, w, want)
	}
}

// P6.1: written out: the chapter's example, and others of one block, of two, and of many.
func TestSumByHand(t *testing.T) {
	for s, want := range map[string]string{
		"abc": "a9993e364706816aba3e25717850c26c9cd0d89d",
		"":    "da39a3ee5e6b4b0d3255bfef95601890afd80709",
		"a":   "86f7e437faa5a7fce15d1ddcb9eaeaea377667b8",
		"abcdbcdecdefdefgefghfghighijhijkijkljklmklmnlmnomnopnopq":                                                         "84983e441c3bd26ebaae4aa1f95129e5e54670f1",
		"abcdefghbcdefghicdefghijdefghijkefghijklfghijklmghijklmnhijklmnoijklmnopjklmnopqklmnopqrlmnopqrsmnopqrstnopqrstu": "a49b2446a02c645bf419f995b67091253a04a259",
		"The quick brown fox jumps over the lazy dog":                                                                      "2fd4e1c67a2d28fced849ee1bb76e7391b93eb12",
		"\x00":                       "5ba93c9db0cff93f52b521d7420e43f6eda2784f",
		"\x80":                       "c78ebd3c85a39a596d9f5cfd2b8d240bc1b9c125",
		"\xff":                       "85e53271e14006f0265921d02d4d736cdc580b0b",
		strings.Repeat("\x00", 64):   "c8d7d0ef0eedfa82d2ea1aa592845b9a6d4b02b7",
		strings.Repeat("\xff", 64):   "ffc6261e487efa8c7442069f71acfc4aa826993d",
		strings.Repeat("a", 1000000): "34aa973cd4c4daa4f61eeb2bdbad27316534016f",
	} {
		checkHex(t, Sum([]byte(s)), want)
	}
	all := make([]byte, 256)
	for k := range all {
		all[k] = byte(k)
	}
	checkHex(t, Sum(all), "4916d6bdb7f78e6803698cab32d1586ea457dfc8")
}

// P6.1: written out, about where what is padded just fills one block, two and three, and where the bytes themselves do.
func TestSumAboutBlocksByHand(t *testing.T) {
	for n, want := range map[int]string{
		55: "c1c8bbdc22796e28c0e15163d20899b65621d65a", 56: "c2db330f6083854c99d4b5bfb6e8f29f201be699", 63: "03f09f5b158a7a8cdad920bddc29b81c18a551f5", 64: "0098ba824b5c16427bd7a1122a5a442a25ec644d", 65: "11655326c708d70319be2610e8a57d9a5b959d3b",
		119: "ee971065aaa017e0632a8ca6c77bb3bf8b1dfc56", 120: "f34c1488385346a55709ba056ddd08280dd4c6d6", 127: "89d95fa32ed44a7c610b7ee38517ddf57e0bb975", 128: "ad5b3fdbcb526778c2839d2f151ea753995e26a0", 129: "d96debf1bdcbc896e6c134ea76e8141f40d78536",
		183: "021fedbd6b884e3cdd89d7477ffe852155c37456", 184: "2a4c545628c4875631e342e101f8af11cf48d252", 191: "f0d0429532d8c279879349ef6d15ec39a1f337c7", 192: "9b1a580cb91c62712ce65498ebad252a1d83051d", 193: "8a3a12a43de5d50c9b65809e21f11912fd66a237",
	} {
		checkHex(t, Sum(bytes.Repeat([]byte{'a'}, n)), want)
	}
}

// P6.1: every length up to many blocks, of each kind of bytes, held against the library.
func TestSumOfEachLength(t *testing.T) {
	for n := range 1300 {
		for _, b := range kinds(n) {
			checkSum(t, sha1.Sum(b), b)
		}
	}
	for _, n := range []int{4095, 4096, 4097, 8191, 8192, 8193, 65535, 65536, 65537, 1<<21 - 1, 1 << 21, 1<<21 + 1} {
		b := bytes.Repeat([]byte{0x5a}, n)
		checkSum(t, sha1.Sum(b), b)
	}
}

// P6.1: each byte at each place of two blocks, and each bit of a word.
func TestSumOfEachByte(t *testing.T) {
	for n := range 256 {
		b := []byte{byte(n)}
		checkSum(t, sha1.Sum(b), b)
		for k := range 130 {
			b = make([]byte, 130)
			b[k] = byte(n)
			checkSum(t, sha1.Sum(b), b)
		}
	}
}

// P6.1: bytes that end as what is padded ends are not taken for it.
func TestSumOfWhatIsPadded(t *testing.T) {
	for n := range 200 {
		b := bytes.Repeat([]byte{'a'}, n)
		padded := append(slices.Clone(b), 128)
		for len(padded)%64 != 56 {
			padded = append(padded, 0)
		}
		padded = binary.BigEndian.AppendUint64(padded, uint64(n)*8)
		checkSum(t, sha1.Sum(padded), padded)
		if Sum(padded) == Sum(b) {
			t.Errorf("Sum of %d bytes is that of what is padded", n)
		}
	}
}

// P6.1: how many bits there were goes past 32 bits from 2^29 bytes on.
func TestSumOfVeryManyBytes(t *testing.T) {
	if testing.Short() {
		t.Skip("half a GiB")
	}
	b := make([]byte, 1<<22)
	for k := range b {
		b[k] = byte(k * 13)
	}
	var parts [][]byte
	for range 1 << 7 {
		parts = append(parts, b)
	}
	parts = append(parts, []byte("abc"))
	other := sha1.New()
	for _, p := range parts {
		other.Write(p)
	}
	if d, want := Sum(parts...), [20]byte(other.Sum(nil)); d != want {
		t.Errorf("Sum of 2^29 + 3 bytes: %x; want %x", d, want)
	}
}

// P6.1, W5: no part at all, a nil one, empty ones: no bytes.
func TestSumOfNoBytes(t *testing.T) {
	const none = "da39a3ee5e6b4b0d3255bfef95601890afd80709"
	checkHex(t, Sum(), none)
	checkHex(t, Sum(nil), none)
	for _, parts := range [][][]byte{nil, {}, {nil}, {{}}, {nil, nil}, {nil, {}, nil}, {{}, {}, {}}, make([][]byte, 1000), {make([]byte, 0, 100)}, {[]byte("abc")[:0]}, {[]byte("abc")[3:]}} {
		checkHex(t, Sum(parts...), none)
	}
}

// P6.1: parts are taken in their order, all of them, bytes that are alike too.
func TestSumGoesByTheOrderOfParts(t *testing.T) {
	a, b, c := []byte("a"), []byte("b"), []byte("c")
	for s, parts := range map[string][][]byte{
		"abc": {a, b, c}, "acb": {a, c, b}, "bac": {b, a, c}, "bca": {b, c, a}, "cab": {c, a, b}, "cba": {c, b, a},
		"aaa": {a, a, a}, "aa": {a, a}, "abab": {a, b, a, b}, "ab": {nil, a, nil, {}, b, nil},
	} {
		checkSum(t, sha1.Sum([]byte(s)), parts...)
	}
	had := map[[20]byte]bool{}
	for _, parts := range [][][]byte{{a, b, c}, {a, c, b}, {b, a, c}, {b, c, a}, {c, a, b}, {c, b, a}} {
		had[Sum(parts...)] = true
	}
	if len(had) != 6 {
		t.Errorf("six orders of parts: %d digests", len(had))
	}
}

// P6.1, P6.2: digests of many texts; among them are those where a word, or the whole, begins with noughts.
func TestDigestsOfManyTexts(t *testing.T) {
	for n := range 10000 {
		s := []byte(strconv.Itoa(n))
		want := sha1.Sum(s)
		checkSum(t, want, s)
		checkHex(t, want, hex.EncodeToString(want[:]))
	}
	for s, want := range map[string]string{
		"6117": "00078f66cd4321af437c7d9486bacb3b3b187328", "1347": "952b1d3c000dd8b840ad03461f71c71a0cb83086", "5750": "b7f58bdc03119612000fff9c609acdc4de598c2d", "524": "6632e7ca34bf65b81cadd060000fa794dc91938f", "2062": "329bccc75b40306e1ada36378bd690c9000f9c6c",
	} {
		checkHex(t, Sum([]byte(s)), want)
	}
	checkWords(t, Sum([]byte("6117")), [5]uint32{0x00078f66, 0xcd4321af, 0x437c7d94, 0x86bacb3b, 0x3b187328})
	checkWords(t, Sum([]byte("2062")), [5]uint32{0x329bccc7, 0x5b40306e, 0x1ada3637, 0x8bd690c9, 0x000f9c6c})
	checkWords(t, Sum([]byte("abc")), [5]uint32{0xa9993e36, 0x4706816a, 0xba3e2571, 0x7850c26c, 0x9cd0d89d})
}

// P6.2: written out: noughts ahead, behind and between, the highest bits, and each digit.
func TestWordsAndHexByHand(t *testing.T) {
	for _, x := range digests() {
		checkWords(t, x.d, x.words)
		checkHex(t, x.d, x.hex)
	}
}

// P6.2: each byte at each place, alone and among others: forty digits, small letters, and the word it belongs to.
func TestWordsAndHexOfEachByte(t *testing.T) {
	for _, d := range [][20]byte{{}, [20]byte(bytes.Repeat([]byte{255}, 20)), {3, 1, 4, 1, 5, 9, 2, 6, 5, 3, 5, 8, 9, 7, 9, 3, 2, 3, 8, 4}} {
		for k := range d {
			for b := range 256 {
				d[k] = byte(b)
				var words [5]uint32
				for n := range words {
					words[n] = binary.BigEndian.Uint32(d[4*n:])
				}
				checkWords(t, d, words)
				checkHex(t, d, hex.EncodeToString(d[:]))
			}
		}
	}
}

// P6.3, W6: neither the parts are changed, nor what stands about them, nor their list, with the spare room of all.
func TestNothingHandedInIsChanged(t *testing.T) {
	for _, n := range []int{0, 1, 3, 55, 56, 63, 64, 65, 119, 120, 128, 200} {
		room := bytes.Repeat([]byte{0xa5}, 3*n+400)
		list := [][]byte{room[:n], room[n : 2*n], nil, {}, room[2*n : 3*n : 3*n], []byte("spare"), []byte("room")}
		before := slices.Clone(list)
		checkSum(t, sha1.Sum(room[:3*n]), list[:5]...)
		if !bytes.Equal(room, bytes.Repeat([]byte{0xa5}, 3*n+400)) {
			t.Fatalf("parts of %d bytes: they, or their spare room, are changed", n)
		}
		for k, p := range list {
			was := before[k]
			if len(p) != len(was) || cap(p) != cap(was) || len(p) > 0 && &p[0] != &was[0] || (p == nil) != (was == nil) {
				t.Fatalf("parts of %d bytes: the part %d of the list is another one", n, k)
			}
		}
		if string(list[5]) != "spare" || string(list[6]) != "room" {
			t.Fatalf("parts of %d bytes: the list's spare room is changed", n)
		}
	}
}

// P6.3, W2: nothing is kept: what is done with the parts afterwards changes no answer, and no answer hangs on an earlier one.
func TestNothingHandedInIsKept(t *testing.T) {
	b := bytes.Repeat([]byte{'a'}, 100)
	first := Sum(b[:70], b[70:])
	want := sha1.Sum(b)
	for k := range b {
		b[k] = 'b'
	}
	if first != want {
		t.Errorf("%x, behind a change of the parts; want %x", first, want)
	}
	checkSum(t, sha1.Sum(b), b)
	checkSum(t, sha1.Sum(nil))
	checkSum(t, sha1.Sum([]byte("abc")), []byte("abc"))
	for k := range b {
		b[k] = 'a'
	}
	checkSum(t, want, b[:70], b[70:])
	d := Sum(b)
	Words(d)
	Hex(d)
	if d != want {
		t.Errorf("Words or Hex changed %x to %x", want, d)
	}
}

// W2: calls at the same time do not touch each other.
func TestSumsAtTheSameTime(t *testing.T) {
	var all sync.WaitGroup
	b := kinds(3000)[3]
	for n := range 16 {
		all.Go(func() {
			for k := range 200 {
				p := b[:n*180+k]
				if d := Sum(p[:k], p[k:]); d != sha1.Sum(p) {
					t.Errorf("Sum of %d bytes at the same time as others: %x", len(p), d)
				}
			}
		})
	}
	all.Wait()
}

// P6.4: cut in two and in three at every place, also where a part is empty.
func TestSumOfBytesCutAtEveryPlace(t *testing.T) {
	for _, n := range []int{0, 1, 2, 55, 56, 57, 63, 64, 65, 119, 120, 121, 127, 128, 129, 150} {
		b := kinds(n)[5]
		want := sha1.Sum(b)
		checkSum(t, want, b)
		for k := range n + 1 {
			checkSum(t, want, b[:k], b[k:])
			checkSum(t, want, nil, b[:k], nil, b[k:], []byte{})
			for l := k; l <= n; l++ {
				checkSum(t, want, b[:k], b[k:l], b[l:])
			}
		}
	}
}

// P6.4: cut into many parts, of each size, alike and growing, with empty ones among them.
func TestSumOfBytesInManyParts(t *testing.T) {
	for _, b := range kinds(700) {
		want := sha1.Sum(b)
		for size := 1; size <= 200; size++ {
			parts := slices.Collect(slices.Chunk(b, size))
			checkSum(t, want, parts...)
			var among [][]byte
			for _, p := range parts {
				among = append(among, nil, p, []byte{})
			}
			checkSum(t, want, among...)
			var growing [][]byte
			rest := b
			for k := size; len(rest) > 0; k++ {
				n := min(k%67, len(rest))
				growing = append(growing, rest[:n])
				rest = rest[n:]
			}
			checkSum(t, want, growing...)
		}
	}
}

// W1, P6.1, P6.2, P6.4: whatever bytes, wherever they are cut.
func FuzzSum(f *testing.F) {
	for _, n := range []int{0, 1, 55, 56, 63, 64, 65, 119, 120, 200} {
		f.Add(kinds(n)[3], n/3, n/2)
	}
	f.Fuzz(func(t *testing.T, b []byte, k, l int) {
		want := sha1.Sum(b)
		checkSum(t, want, b)
		checkHex(t, want, hex.EncodeToString(want[:]))
		if k >= 0 && k <= l && l <= len(b) {
			checkSum(t, want, b[:k], b[k:l], b[l:])
		}
	})
}
