package num

import (
	"math/big"
	"slices"
	"testing"

	"epact/api"
)

const (
	most  = api.MaxInt
	least = api.MinInt
)

// edges are numbers about which reckoning goes wrong first: the ends, 0, roots of the ends, powers of two, and some plain ones.
func edges() []int {
	l := []int{least, least + 1, least + 2, most, most - 1, most - 2, least / 2, least/2 - 1, most / 2, most/2 + 1, least / 3, most / 3}
	for n := -20; n <= 20; n++ {
		l = append(l, n)
	}
	for k := 4; k < 63; k++ {
		for d := -1; d <= 1; d++ {
			l = append(l, 1<<k+d, -1<<k+d)
		}
	}
	// 3037000499 is the greatest number whose square is at most MaxInt.
	for _, n := range []int{86400, 2208988800, 63072000, 1000000000, 3037000499, 3037000500} {
		l = append(l, n, -n)
	}
	return l
}

type two struct {
	name  string
	do    func(a, b int) (int, bool)
	exact func(z, a, b *big.Int) *big.Int
}

func calls() []two {
	return []two{{"Add", Add, (*big.Int).Add}, {"Sub", Sub, (*big.Int).Sub}, {"Mul", Mul, (*big.Int).Mul}}
}

// P1.1: the exact answer, or 0 and false where it is out of the ends, held against numbers of any size.
func TestAddSubMulAreExact(t *testing.T) {
	l := edges()
	for _, c := range calls() {
		for _, a := range l {
			for _, b := range l {
				exact := c.exact(new(big.Int), big.NewInt(int64(a)), big.NewInt(int64(b)))
				want, fits := 0, exact.IsInt64()
				if fits {
					want = int(exact.Int64())
				}
				if n, ok := c.do(a, b); n != want || ok != fits {
					t.Fatalf("%s(%d, %d): %d, %v; want %d, %v", c.name, a, b, n, ok, want, fits)
				}
			}
		}
	}
}

// P1.1: written out, without another reckoning to lean on.
func TestAddSubMulByHand(t *testing.T) {
	for _, x := range []struct {
		name    string
		do      func(a, b int) (int, bool)
		a, b, n int
		ok      bool
	}{
		{"Add", Add, 2, 3, 5, true},
		{"Add", Add, 2, -3, -1, true},
		{"Add", Add, most, 0, most, true},
		{"Add", Add, most - 1, 1, most, true},
		{"Add", Add, most, 1, 0, false},
		{"Add", Add, 1, most, 0, false},
		{"Add", Add, most, most, 0, false},
		{"Add", Add, least, 0, least, true},
		{"Add", Add, least + 1, -1, least, true},
		{"Add", Add, least, -1, 0, false},
		{"Add", Add, least, least, 0, false},
		{"Add", Add, least, most, -1, true},
		{"Sub", Sub, 2, 3, -1, true},
		{"Sub", Sub, 2, -3, 5, true},
		{"Sub", Sub, most, most, 0, true},
		{"Sub", Sub, least, least, 0, true},
		{"Sub", Sub, most, -1, 0, false},
		{"Sub", Sub, least, 1, 0, false},
		{"Sub", Sub, -1, least, most, true},
		{"Sub", Sub, 0, least, 0, false},
		{"Sub", Sub, 0, most, least + 1, true},
		{"Sub", Sub, -1, most, least, true},
		{"Sub", Sub, -2, most, 0, false},
		{"Mul", Mul, 6, -7, -42, true},
		{"Mul", Mul, -6, -7, 42, true},
		{"Mul", Mul, 0, least, 0, true},
		{"Mul", Mul, least, 0, 0, true},
		{"Mul", Mul, least, 1, least, true},
		{"Mul", Mul, 1, least, least, true},
		{"Mul", Mul, least, -1, 0, false},
		{"Mul", Mul, -1, least, 0, false},
		{"Mul", Mul, most, -1, least + 1, true},
		{"Mul", Mul, -1, most, least + 1, true},
		{"Mul", Mul, most, 2, 0, false},
		{"Mul", Mul, least, 2, 0, false},
		{"Mul", Mul, least / 2, 2, least, true},
		{"Mul", Mul, least / 2, -2, 0, false},
		{"Mul", Mul, 1 << 32, 1 << 32, 0, false}, // goes round to just 0
		{"Mul", Mul, 3037000499, 3037000499, 9223372030926249001, true},
		{"Mul", Mul, 3037000500, 3037000500, 0, false},
	} {
		if n, ok := x.do(x.a, x.b); n != x.n || ok != x.ok {
			t.Errorf("%s(%d, %d): %d, %v; want %d, %v", x.name, x.a, x.b, n, ok, x.n, x.ok)
		}
	}
}

// P1.2: rounded down, ahead of 0 too.
func TestDivByHand(t *testing.T) {
	for _, x := range [][4]int{
		{7, 3, 2, 1}, {6, 3, 2, 0}, {2, 3, 0, 2}, {0, 3, 0, 0},
		{-1, 3, -1, 2}, {-2, 3, -1, 1}, {-3, 3, -1, 0}, {-4, 3, -2, 2},
		{-1, 86400, -1, 86399}, {-86400, 86400, -1, 0}, {-86401, 86400, -2, 86399},
		{least, 1, least, 0}, {most, 1, most, 0}, {-5, 1, -5, 0},
		{least, 2, least / 2, 0}, {most, 2, most / 2, 1},
		{least, most, -2, most - 1}, {most, most, 1, 0}, {most - 1, most, 0, most - 1}, {-1, most, -1, most - 1},
	} {
		if q, r, ok := Div(x[0], x[1]); q != x[2] || r != x[3] || !ok {
			t.Errorf("Div(%d, %d): %d, %d, %v; want %d, %d, true", x[0], x[1], q, r, ok, x[2], x[3])
		}
	}
}

// P1.2: by a number below 1 there is no quotient, whatever is divided.
func TestDivBelowOne(t *testing.T) {
	l := edges()
	for _, b := range l {
		if b >= 1 {
			continue
		}
		for _, a := range l {
			if q, r, ok := Div(a, b); q != 0 || r != 0 || ok {
				t.Fatalf("Div(%d, %d): %d, %d, %v; want 0, 0, false", a, b, q, r, ok)
			}
		}
	}
}

// P1.2, P1.4: what is divided is the quotient's b-fold and the remainder, from 0 to b - 1; there is just one such pair.
func TestDivGivesBack(t *testing.T) {
	l := edges()
	for _, b := range l {
		if b < 1 {
			continue
		}
		for _, a := range l {
			q, r, ok := Div(a, b)
			if !ok || r < 0 || r > b-1 {
				t.Fatalf("Div(%d, %d): %d, %d, %v", a, b, q, r, ok)
			}
			back := new(big.Int).Mul(big.NewInt(int64(q)), big.NewInt(int64(b)))
			back.Add(back, big.NewInt(int64(r)))
			if back.Cmp(big.NewInt(int64(a))) != 0 {
				t.Fatalf("Div(%d, %d): %d, %d gives back %s", a, b, q, r, back)
			}
		}
	}
}

// P1.4: what was added may be taken away again, and the other way about.
func TestAddedIsTakenAway(t *testing.T) {
	l := edges()
	for _, a := range l {
		for _, b := range l {
			if n, ok := Add(a, b); ok {
				if back, ok := Sub(n, b); back != a || !ok {
					t.Fatalf("Sub(%d, %d): %d, %v; want %d, true", n, b, back, ok, a)
				}
			}
			if n, ok := Sub(a, b); ok {
				if back, ok := Add(n, b); back != a || !ok {
					t.Fatalf("Add(%d, %d): %d, %v; want %d, true", n, b, back, ok, a)
				}
			}
		}
	}
}

// P1.3: all together; what is too much on the way is too much, even where the whole is not.
func TestSumByHand(t *testing.T) {
	for _, x := range []struct {
		l  []int
		n  int
		ok bool
	}{
		{nil, 0, true},
		{[]int{}, 0, true},
		{[]int{7}, 7, true},
		{[]int{most}, most, true},
		{[]int{least}, least, true},
		{[]int{1, -2, 5}, 4, true},
		{[]int{1, 2, 3, 4, 5, 6, 7, 8, 9, 10}, 55, true},
		{[]int{most, -5, 5}, most, true},
		{[]int{least, 5, -5}, least, true},
		{[]int{most, least, 1}, 0, true},
		{[]int{most, 1}, 0, false},
		{[]int{least, -1}, 0, false},
		{[]int{most, 1, -1}, 0, false},
		{[]int{1, most, -1}, 0, false},
		{[]int{1, -1, most}, most, true},
		{[]int{least, -1, 1}, 0, false},
		{[]int{5, most, least}, 0, false},
		{[]int{most, 1, least, least, 5}, 0, false},
		{[]int{least, least}, 0, false}, // goes round to just 0
	} {
		if n, ok := Sum(x.l...); n != x.n || ok != x.ok {
			t.Errorf("Sum(%v): %d, %v; want %d, %v", x.l, n, ok, x.n, x.ok)
		}
	}
	if n, ok := Sum(); n != 0 || !ok {
		t.Errorf("Sum(): %d, %v; want 0, true", n, ok)
	}
}

// P1.3: of three it is Add of Add, in that order.
func TestSumGoesFromTheFirst(t *testing.T) {
	l := []int{least, least + 1, least / 2, -2, -1, 0, 1, 2, most / 2, most/2 + 1, most - 1, most}
	for _, a := range l {
		for _, b := range l {
			for _, c := range l {
				want, fits := Add(a, b)
				if fits {
					want, fits = Add(want, c)
				}
				if n, ok := Sum(a, b, c); n != want || ok != fits {
					t.Fatalf("Sum(%d, %d, %d): %d, %v; want %d, %v", a, b, c, n, ok, want, fits)
				}
			}
		}
	}
}

// W6: the list that is handed in stays as it was, and its spare room too.
func TestSumLeavesTheList(t *testing.T) {
	whole := []int{1, 2, 3, 4, 5}
	if n, ok := Sum(whole[:3]...); n != 6 || !ok {
		t.Errorf("Sum: %d, %v; want 6, true", n, ok)
	}
	if !slices.Equal(whole, []int{1, 2, 3, 4, 5}) {
		t.Errorf("the list was changed: %v", whole)
	}
}
