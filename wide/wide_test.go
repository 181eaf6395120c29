package wide

import (
	"math/big"
	"testing"

	"epact/api"
)

const (
	most  = api.MaxInt
	least = api.MinInt
)

// parts are numbers from 0 on whose products and quotients lie about the edges: small ones, powers of two, roots and parts of MaxInt, and lengths of days in nanoseconds.
func parts() []int {
	l := []int{0, 1, 2, 3, 5, 7, 10, most, most - 1, most - 2, most / 2, most/2 + 1, most / 3, most/3 + 1, most / 7}
	for _, k := range []int{8, 16, 30, 31, 32, 33, 40, 47, 61, 62} {
		l = append(l, 1<<k-1, 1<<k, 1<<k+1)
	}
	// 3037000499 is the greatest number whose square is at most MaxInt; MaxInt is 7 times 7 times 73 times 127 times 337 times 92737 times 649657.
	return append(l, 3037000499, 3037000500, 49, 73, 649657, most/649657, 86399, 86400, 86401, 1000000000, 86400999999999)
}

// wrongs are numbers below 0.
func wrongs() []int {
	return []int{-1, -2, -86400, -1 << 32, -1 << 62, -most, least}
}

func great(n int) *big.Int { return big.NewInt(int64(n)) }

func product(a, b int) *big.Int { return new(big.Int).Mul(great(a), great(b)) }

// wantDiv tells what MulDiv and Up ask for of right arguments, by numbers of any size.
func wantDiv(a, b, c int) (q, r int, fits bool, up int, upFits bool) {
	quotient, rest := new(big.Int).QuoRem(product(a, b), great(c), new(big.Int))
	raised := new(big.Int).Set(quotient)
	if rest.Sign() > 0 {
		raised.Add(raised, great(1))
	}
	if fits = quotient.IsInt64(); fits {
		q, r = int(quotient.Int64()), int(rest.Int64())
	}
	if upFits = raised.IsInt64(); upFits {
		up = int(raised.Int64())
	}
	return q, r, fits, up, upFits
}

func checkDiv(t *testing.T, a, b, c int) {
	t.Helper()
	wantQ, wantR, fits, wantUp, upFits := wantDiv(a, b, c)
	if q, r, ok := MulDiv(a, b, c); q != wantQ || r != wantR || ok != fits {
		t.Fatalf("MulDiv(%d, %d, %d): %d, %d, %v; want %d, %d, %v", a, b, c, q, r, ok, wantQ, wantR, fits)
	}
	if n, ok := Up(a, b, c); n != wantUp || ok != upFits {
		t.Fatalf("Up(%d, %d, %d): %d, %v; want %d, %v", a, b, c, n, ok, wantUp, upFits)
	}
}

// P2.1: the two parts, written out.
func TestMulByHand(t *testing.T) {
	for _, x := range [][4]int{
		{0, 0, 0, 0}, {0, most, 0, 0}, {most, 0, 0, 0}, {1, 1, 0, 1}, {6, 7, 0, 42},
		{most, 1, 0, most}, {1, most, 0, most},
		{649657, most / 649657, 0, most},                 // just MaxInt
		{1 << 62, 2, 1, 0},                               // just 2^63
		{2, 1 << 62, 1, 0},                               // likewise
		{1 << 31, 1 << 32, 1, 0},                         // likewise
		{3, 3074457345618258603, 1, 1},                   // 2^63 + 1
		{3037000499, 3037000499, 0, 9223372030926249001}, // the last square below 2^63
		{3037000500, 3037000500, 1, 145474192},           // the first one above
		{1 << 32, 1 << 32, 2, 0},                         // 2^64
		{most, 2, 1, most - 1}, {most, 3, 2, most - 2}, {1 << 62, 3, 1, 1 << 62},
		{1 << 62, 1 << 62, 1 << 61, 0},
		{most, most - 1, most - 2, 2}, {most, most, most - 1, 1},
	} {
		if h, l, ok := Mul(x[0], x[1]); h != x[2] || l != x[3] || !ok {
			t.Errorf("Mul(%d, %d): %d, %d, %v; want %d, %d, true", x[0], x[1], h, l, ok, x[2], x[3])
		}
	}
}

// P2.1: the high part's 2^63-fold and the low part, from 0 to 2^63 - 1, are the product; there is just one such pair.
func TestMulIsExact(t *testing.T) {
	for _, a := range parts() {
		for _, b := range parts() {
			h, l, ok := Mul(a, b)
			if !ok || h < 0 || l < 0 {
				t.Fatalf("Mul(%d, %d): %d, %d, %v", a, b, h, l, ok)
			}
			both := new(big.Int).Lsh(great(h), 63)
			both.Add(both, great(l))
			if both.Cmp(product(a, b)) != 0 {
				t.Fatalf("Mul(%d, %d): %d, %d is %s; want %s", a, b, h, l, both, product(a, b))
			}
		}
	}
}

// P2.1: a number below 0 on either side has no product, not even by 0.
func TestMulBelowZero(t *testing.T) {
	for _, a := range wrongs() {
		for _, b := range append(parts(), wrongs()...) {
			for _, x := range [][2]int{{a, b}, {b, a}} {
				if h, l, ok := Mul(x[0], x[1]); h != 0 || l != 0 || ok {
					t.Fatalf("Mul(%d, %d): %d, %d, %v; want 0, 0, false", x[0], x[1], h, l, ok)
				}
			}
		}
	}
}

// P2.2: quotients downwards and upwards, written out.
func TestMulDivAndUpByHand(t *testing.T) {
	for _, x := range []struct{ a, b, c, q, r, up int }{
		{10, 7, 4, 17, 2, 18}, {10, 8, 4, 20, 0, 20}, {0, 9, 4, 0, 0, 0}, {9, 0, 4, 0, 0, 0},
		{1, 3, 4, 0, 3, 1}, {6, 7, 1, 42, 0, 42}, {most, 1, 1, most, 0, most},
		{most, 1, most, 1, 0, 1}, {most - 1, 1, most, 0, most - 1, 1}, {1, 1, most, 0, 1, 1},
		{most, most, most, most, 0, most}, {most, most - 1, most, most - 1, 0, most - 1},
		{most - 1, most - 1, most, most - 2, 1, most - 1},
		{most, 2, 2, most, 0, most}, {most, 2, 3, 6148914691236517204, 2, 6148914691236517205},
		{1 << 62, 2, 2, 1 << 62, 0, 1 << 62}, {1 << 62, 4, 3, 6148914691236517205, 1, 6148914691236517206},
		{86400999999999, 86400, 86401, 86399999999999, 1, 86400000000000},
	} {
		if q, r, ok := MulDiv(x.a, x.b, x.c); q != x.q || r != x.r || !ok {
			t.Errorf("MulDiv(%d, %d, %d): %d, %d, %v; want %d, %d, true", x.a, x.b, x.c, q, r, ok, x.q, x.r)
		}
		if n, ok := Up(x.a, x.b, x.c); n != x.up || !ok {
			t.Errorf("Up(%d, %d, %d): %d, %v; want %d, true", x.a, x.b, x.c, n, ok, x.up)
		}
	}
}

// P2.2: a quotient of MaxInt with a rest is the last one downwards, and too great upwards; one of 2^63 is too great for both.
func TestQuotientsAboutMaxInt(t *testing.T) {
	for _, x := range []struct {
		a, b, c, q, r int
		ok            bool
		up            int
		upOk          bool
	}{
		{most, 1, 1, most, 0, true, most, true},
		{1 << 62, 2, 1, 0, 0, false, 0, false},
		{most, 2, 1, 0, 0, false, 0, false},
		{649657, 1 << 50, 1, 0, 0, false, 0, false},
		{3, 6148914691236517205, 2, most, 1, true, 0, false}, // 2^64 - 1
		{1 << 62, 4, 2, 0, 0, false, 0, false},               // 2^64
		{most, 2, 2, most, 0, true, most, true},              // 2^64 - 2
		{1 << 62, 6, 3, 0, 0, false, 0, false},               // just 3 times 2^63
		{1 << 62, 8, 4, 0, 0, false, 0, false},               // the low half of 128 bits is 0
		{most, most, most - 1, 0, 0, false, 0, false},
		{most, most, most, most, 0, true, most, true},
		{most, most, 1, 0, 0, false, 0, false},
		{most, most, 2, 0, 0, false, 0, false},
		{most, most, 1 << 62, 0, 0, false, 0, false},
	} {
		if q, r, ok := MulDiv(x.a, x.b, x.c); q != x.q || r != x.r || ok != x.ok {
			t.Errorf("MulDiv(%d, %d, %d): %d, %d, %v; want %d, %d, %v", x.a, x.b, x.c, q, r, ok, x.q, x.r, x.ok)
		}
		if n, ok := Up(x.a, x.b, x.c); n != x.up || ok != x.upOk {
			t.Errorf("Up(%d, %d, %d): %d, %v; want %d, %v", x.a, x.b, x.c, n, ok, x.up, x.upOk)
		}
	}
}

// P2.2: held against numbers of any size.
func TestMulDivAndUpAreExact(t *testing.T) {
	for _, a := range parts() {
		for _, b := range parts() {
			for _, c := range parts() {
				if c > 0 {
					checkDiv(t, a, b, c)
				}
			}
		}
	}
}

// P2.2: divisors about a product's 2^63rd part, where the quotient goes past MaxInt.
func TestDivisorsAboutTheEdge(t *testing.T) {
	for _, a := range parts() {
		for _, b := range parts() {
			edge := int(new(big.Int).Rsh(product(a, b), 63).Int64())
			for d := -2; d <= 2; d++ {
				if c := edge + d; c >= 1 { // past MaxInt it goes round, below 1
					checkDiv(t, a, b, c)
				}
			}
		}
	}
}

// P2.2: numbers below 0, and divisors below 1, have no quotient.
func TestMulDivAndUpOfWrongNumbers(t *testing.T) {
	var l [][3]int
	for _, w := range wrongs() {
		for _, n := range append(parts(), wrongs()...) {
			l = append(l, [3]int{w, n, 1}, [3]int{n, w, 1}, [3]int{w, n, most}, [3]int{n, w, most}, [3]int{n, 1, w}, [3]int{1, n, w}, [3]int{w, w, n})
		}
	}
	for _, n := range parts() {
		l = append(l, [3]int{n, 1, 0}, [3]int{1, n, 0}, [3]int{0, n, 0}, [3]int{n, n, 0})
	}
	for _, x := range l {
		if q, r, ok := MulDiv(x[0], x[1], x[2]); q != 0 || r != 0 || ok {
			t.Fatalf("MulDiv(%d, %d, %d): %d, %d, %v; want 0, 0, false", x[0], x[1], x[2], q, r, ok)
		}
		if n, ok := Up(x[0], x[1], x[2]); n != 0 || ok {
			t.Fatalf("Up(%d, %d, %d): %d, %v; want 0, false", x[0], x[1], x[2], n, ok)
		}
	}
}

// P2.3: written out; products that are alike are not less, whatever they are made of.
func TestLessByHand(t *testing.T) {
	for _, x := range []struct {
		a, b, c, d int
		less       bool
	}{
		{2, 3, 7, 1, true}, {7, 1, 2, 3, false}, {2, 3, 3, 2, false}, {1, 6, 2, 3, false},
		{0, 0, 0, 0, false}, {0, most, most, 0, false}, {0, most, 1, 1, true}, {1, 1, 0, most, false},
		{most, 1, 1 << 62, 2, true}, {1 << 62, 2, most, 1, false}, // MaxInt and 2^63
		{1 << 62, 2, 1 << 31, 1 << 32, false},               // alike, 2^63
		{1 << 62, 2, 3, 3074457345618258603, true},          // 2^63 and 2^63 + 1
		{3, 3074457345618258603, 1 << 62, 2, false},         // likewise
		{3, 6148914691236517205, 1 << 32, 1 << 32, true},    // 2^64 - 1 and 2^64
		{1 << 32, 1 << 32, 3, 6148914691236517205, false},   // likewise
		{1 << 62, 4, 1, 1, false}, {1, 1, 1 << 62, 4, true}, // 2^64, whose low half is 0
		{most, 3, 1 << 62, 6, true}, {1 << 62, 6, most, 3, false}, // the high part is less, the low one greater
		{most, most, most, most, false}, {most, most - 1, most - 1, most, false},
		{most, most - 1, most, most, true}, {most, most, most, most - 1, false},
		{most - 1, most - 1, most, most - 2, false}, {most, most - 2, most - 1, most - 1, true}, // 1 apart
	} {
		if less := Less(x.a, x.b, x.c, x.d); less != x.less {
			t.Errorf("Less(%d, %d, %d, %d): %v; want %v", x.a, x.b, x.c, x.d, less, x.less)
		}
	}
}

// P2.3: held against numbers of any size.
func TestLessIsExact(t *testing.T) {
	type pair struct {
		a, b int
		n    *big.Int
	}
	var l []pair
	for _, a := range parts() {
		for _, b := range parts() {
			l = append(l, pair{a, b, product(a, b)})
		}
	}
	for _, x := range l {
		for _, y := range l {
			if less, want := Less(x.a, x.b, y.a, y.b), x.n.Cmp(y.n) < 0; less != want {
				t.Fatalf("Less(%d, %d, %d, %d): %v; want %v", x.a, x.b, y.a, y.b, less, want)
			}
		}
	}
}

// P2.3: with one number below 0, wherever it stands, nothing is less.
func TestLessBelowZero(t *testing.T) {
	l := []int{0, 1, most, -1, least}
	for _, w := range wrongs() {
		for _, m := range l {
			for _, n := range l {
				for _, o := range l {
					for _, x := range [][4]int{{w, m, n, o}, {m, w, n, o}, {m, n, w, o}, {m, n, o, w}} {
						if Less(x[0], x[1], x[2], x[3]) {
							t.Fatalf("Less(%d, %d, %d, %d): true; want false", x[0], x[1], x[2], x[3])
						}
					}
				}
			}
		}
	}
}

// P2.4: a product divided by one of its parts is the other one, without rest.
func TestPartsComeBack(t *testing.T) {
	for _, a := range parts() {
		for _, b := range parts() {
			if b == 0 {
				continue
			}
			for _, x := range [][2]int{{a, b}, {b, a}} {
				if q, r, ok := MulDiv(x[0], x[1], b); q != a || r != 0 || !ok {
					t.Fatalf("MulDiv(%d, %d, %d): %d, %d, %v; want %d, 0, true", x[0], x[1], b, q, r, ok, a)
				}
				if n, ok := Up(x[0], x[1], b); n != a || !ok {
					t.Fatalf("Up(%d, %d, %d): %d, %v; want %d, true", x[0], x[1], b, n, ok, a)
				}
			}
		}
	}
}

// P2.4: what is divided is the quotient's c-fold and the rest, from 0 to c - 1, as wide as it may be: no step goes round.
func TestQuotientAndRestGiveBack(t *testing.T) {
	for _, a := range parts() {
		for _, b := range parts() {
			for _, c := range parts() {
				q, r, ok := MulDiv(a, b, c)
				if !ok {
					continue
				}
				if q < 0 || r < 0 || r >= c {
					t.Fatalf("MulDiv(%d, %d, %d): %d, %d", a, b, c, q, r)
				}
				if back := product(q, c); back.Add(back, great(r)).Cmp(product(a, b)) != 0 {
					t.Fatalf("MulDiv(%d, %d, %d): %d, %d gives back %s", a, b, c, q, r, back)
				}
			}
		}
	}
}
