package day

import (
	"testing"
	"time"

	"epact/api"
)

const (
	most  = api.MaxInt
	least = api.MinInt
)

// wrongYears, wrongMonths and wrongDays are none of any date.
func wrongYears() []int {
	return []int{0, -1, -4, -400, -9999, least, least + 1, 10000, 10001, 12000, 1 << 32, 1<<32 + 2000, most, most - 1}
}

func wrongMonths() []int {
	return []int{0, -1, -2, -12, least, least + 1, 13, 14, 24, 1 << 32, 1<<32 + 2, most, most - 1}
}

func wrongDays() []int {
	return []int{0, -1, -28, -31, least, least + 1, 32, 33, 366, 1 << 32, 1<<32 + 2, most, most - 1}
}

// wrongNumbers are those of no day.
func wrongNumbers() []int {
	return []int{api.MinDay - 1, api.MinDay - 2, api.MinDay - 146097, api.MaxDay + 1, api.MaxDay + 2, api.MaxDay + 146097, -1 << 32, 1 << 32, least, least + 1, most, most - 1}
}

// P3.1: written out; the years of each rule, ahead of the year 1 and past 9999 too, and the ends of numbers.
func TestLeapByHand(t *testing.T) {
	for y, want := range map[int]bool{
		1: false, 2: false, 3: false, 4: true, 5: false, 8: true, 96: true, 100: false, 104: true,
		200: false, 300: false, 400: true, 500: false, 800: true, 1582: false, 1600: true, 1700: false, 1800: false, 1900: false,
		1970: false, 1972: true, 1999: false, 2000: true, 2001: false, 2004: true, 2023: false, 2024: true, 2100: false,
		9600: true, 9900: false, 9996: true, 9999: false, 10000: true, 10004: true, 10100: false,
		0: true, -1: false, -3: false, -4: true, -96: true, -100: false, -104: true, -300: false, -400: true, -500: false,
		least: true, least + 1: false, least + 4: true, most: false, most - 3: true, // 2^63 is divisible by 4, not by 100
		least + 8: false, least + 208: true, most - 7: false, most - 207: true, // 2^63 leaves 8 by 100, and 208 by 400
	} {
		if got := Leap(y); got != want {
			t.Errorf("Leap(%d): %v; want %v", y, got, want)
		}
	}
}

// P3.1: 97 leap years in any 400 that follow each other.
func TestLeapYearsOfFourCenturies(t *testing.T) {
	for _, first := range []int{-2000, -399, -1, 0, 1, 1583, 1970, 9990} {
		count := 0
		for y := first; y < first+400; y++ {
			if Leap(y) {
				count++
			}
		}
		if count != 97 {
			t.Errorf("from %d on: %d leap years; want 97", first, count)
		}
	}
}

// P3.1: all months of plain years, of leap years, and of those at the ends.
func TestLastByHand(t *testing.T) {
	plain := []int{31, 28, 31, 30, 31, 30, 31, 31, 30, 31, 30, 31}
	for y, february := range map[int]int{1: 28, 4: 29, 100: 28, 400: 29, 1900: 28, 1970: 28, 1972: 29, 2000: 29, 2001: 28, 2023: 28, 2024: 29, 2100: 28, 9600: 29, 9900: 28, 9996: 29, 9999: 28} {
		for k, want := range plain {
			if k == 1 {
				want = february
			}
			if n, ok := Last(y, k+1); n != want || !ok {
				t.Errorf("Last(%d, %d): %d, %v; want %d, true", y, k+1, n, ok, want)
			}
		}
	}
}

// P3.1: years and months that are none, leap years or not.
func TestLastOfWrongMonths(t *testing.T) {
	check := func(y, m int) {
		if n, ok := Last(y, m); n != 0 || ok {
			t.Errorf("Last(%d, %d): %d, %v; want 0, false", y, m, n, ok)
		}
	}
	for _, y := range wrongYears() {
		for m := -1; m <= 14; m++ {
			check(y, m)
		}
		for _, m := range wrongMonths() {
			check(y, m)
		}
	}
	for _, m := range wrongMonths() {
		for _, y := range []int{1, 4, 1900, 1970, 2000, 9999} {
			check(y, m)
		}
	}
}

// P3.2, P3.3: days, their numbers and days of the week, written out.
func TestDaysByHand(t *testing.T) {
	for _, x := range [][5]int{
		{1, 1, 1, -719162, 1}, {1, 1, 2, -719161, 2}, {1, 12, 31, -718798, 1}, {2, 1, 1, -718797, 2},
		{4, 2, 28, -718009, 6}, {4, 2, 29, -718008, 0}, {4, 3, 1, -718007, 1}, {4, 12, 31, -717702, 5}, {5, 1, 1, -717701, 6},
		{100, 2, 28, -682945, 0}, {100, 3, 1, -682944, 1}, {100, 12, 31, -682639, 5}, {101, 1, 1, -682638, 6},
		{400, 2, 29, -573372, 2}, {400, 12, 31, -573066, 0}, {401, 1, 1, -573065, 1},
		{1582, 10, 4, -141438, 1}, {1582, 10, 5, -141437, 2}, // no days are left out there
		{1600, 2, 29, -135081, 2}, {1600, 3, 1, -135080, 3},
		{1900, 1, 1, -25567, 1}, {1900, 2, 28, -25509, 3}, {1900, 3, 1, -25508, 4},
		{1969, 12, 30, -2, 2}, {1969, 12, 31, -1, 3}, {1970, 1, 1, 0, 4}, {1970, 1, 2, 1, 5}, {1970, 1, 31, 30, 6}, {1970, 2, 1, 31, 0},
		{1972, 1, 1, 730, 6}, {1972, 2, 29, 789, 2}, {1972, 3, 1, 790, 3}, {1972, 6, 30, 911, 5}, {1972, 12, 31, 1095, 0},
		{1999, 12, 31, 10956, 5}, {2000, 1, 1, 10957, 6}, {2000, 2, 28, 11015, 1}, {2000, 2, 29, 11016, 2}, {2000, 3, 1, 11017, 3}, {2000, 12, 31, 11322, 0},
		{2001, 2, 28, 11381, 3}, {2001, 3, 1, 11382, 4},
		{2016, 12, 31, 17166, 6}, {2017, 1, 1, 17167, 0}, {2024, 2, 29, 19782, 4}, {2024, 3, 1, 19783, 5},
		{2100, 2, 28, 47540, 0}, {2100, 3, 1, 47541, 1}, {9999, 12, 30, 2932895, 4}, {9999, 12, 31, 2932896, 5},
	} {
		if n, ok := Number(x[0], x[1], x[2]); n != x[3] || !ok {
			t.Errorf("Number(%d, %d, %d): %d, %v; want %d, true", x[0], x[1], x[2], n, ok, x[3])
		}
		if y, m, d, ok := Date(x[3]); y != x[0] || m != x[1] || d != x[2] || !ok {
			t.Errorf("Date(%d): %d, %d, %d, %v; want %v, true", x[3], y, m, d, ok, x[:3])
		}
		if w := Week(x[3]); w != x[4] {
			t.Errorf("Week(%d): %d; want %d", x[3], w, x[4])
		}
	}
}

// P3.2: years, months and days that are none have no number, also where the others are right.
func TestNumberOfWrongDays(t *testing.T) {
	check := func(y, m, d int) {
		if n, ok := Number(y, m, d); n != 0 || ok {
			t.Errorf("Number(%d, %d, %d): %d, %v; want 0, false", y, m, d, n, ok)
		}
	}
	for _, x := range [][3]int{
		{1, 2, 29}, {100, 2, 29}, {1900, 2, 29}, {1970, 2, 29}, {2001, 2, 29}, {2023, 2, 29}, {2100, 2, 29}, {9999, 2, 29},
		{4, 2, 30}, {400, 2, 30}, {1972, 2, 30}, {2000, 2, 30}, {2024, 2, 30},
		{2000, 4, 31}, {2000, 6, 31}, {2000, 9, 31}, {2000, 11, 31}, {1, 1, 32}, {9999, 12, 32}, {1, 1, 0}, {1970, 1, 0},
		{0, 12, 31}, {10000, 1, 1}, {0, 0, 0},
	} {
		check(x[0], x[1], x[2])
	}
	for _, y := range wrongYears() {
		for _, m := range append(wrongMonths(), 1, 2, 12) {
			for _, d := range append(wrongDays(), 1, 28, 31) {
				check(y, m, d)
			}
		}
	}
	for _, y := range []int{1, 4, 1970, 2000, 9999} {
		for _, m := range wrongMonths() {
			for _, d := range append(wrongDays(), 1, 28, 31) {
				check(y, m, d)
			}
		}
		for m := 1; m <= 12; m++ {
			for _, d := range wrongDays() {
				check(y, m, d)
			}
		}
	}
}

// P3.2, P3.3: numbers of no day have no date, and are no end.
func TestWrongNumbers(t *testing.T) {
	for _, n := range wrongNumbers() {
		if y, m, d, ok := Date(n); y != 0 || m != 0 || d != 0 || ok {
			t.Errorf("Date(%d): %d, %d, %d, %v; want 0, 0, 0, false", n, y, m, d, ok)
		}
		if End(n) {
			t.Errorf("End(%d): true; want false", n)
		}
	}
}

// P3.3: last days of months and their neighbours, written out.
func TestEndByHand(t *testing.T) {
	for n, want := range map[int]bool{
		api.MinDay: false, api.MinDay + 29: false, api.MinDay + 30: true, api.MinDay + 31: false,
		api.MaxDay - 31: true, api.MaxDay - 30: false, api.MaxDay - 1: false, api.MaxDay: true,
		-2: false, -1: true, 0: false, 29: false, 30: true, 31: false,
		911: true, 910: false, 912: false, 17166: true, 17167: false,
		11015: false, 11016: true, 11017: false, // 29 February 2000
		-25510: false, -25509: true, -25508: false, // 28 February 1900
		11381: true, 19781: false, 19782: true, // 28 February 2001, 29 February 2024
		-718009: false, -718008: true, -682945: true, // 29 February 4, 28 February 100
	} {
		if got := End(n); got != want {
			t.Errorf("End(%d): %v; want %v", n, got, want)
		}
	}
}

// P3.3: of any n; out of the calendar, ahead of 1970 and at the ends of numbers too.
func TestWeekByHand(t *testing.T) {
	for n, want := range map[int]int{
		0: 4, 1: 5, 2: 6, 3: 0, 4: 1, 5: 2, 6: 3, 7: 4, 8: 5,
		-1: 3, -2: 2, -3: 1, -4: 0, -5: 6, -6: 5, -7: 4, -8: 3, -14: 4, -15: 3,
		api.MinDay - 1: 0, api.MinDay: 1, api.MaxDay: 5, api.MaxDay + 1: 6,
		// 2^63 leaves 1 by 7.
		most: 4, most - 1: 3, most - 2: 2, most - 3: 1, most - 4: 0, most - 5: 6, most - 6: 5, most - 7: 4,
		least: 3, least + 1: 4, least + 2: 5, least + 3: 6, least + 4: 0, least + 5: 1, least + 6: 2, least + 7: 3,
	} {
		if w := Week(n); w != want {
			t.Errorf("Week(%d): %d; want %d", n, w, want)
		}
	}
}

// P3.4: one day more is the next date, from the first day to the last one; each way back, and the ends of months and the days of the week beside it.
func TestEachDayIsTheNextDate(t *testing.T) {
	lengths := []int{31, 28, 31, 30, 31, 30, 31, 31, 30, 31, 30, 31}
	n, week := -719162, 1
	for y := 1; y <= 9999; y++ {
		for k, last := range lengths {
			if k == 1 && (y%400 == 0 || y%100 != 0 && y%4 == 0) {
				last++
			}
			for d := 1; d <= last; d++ {
				if number, ok := Number(y, k+1, d); number != n || !ok {
					t.Fatalf("Number(%d, %d, %d): %d, %v; want %d, true", y, k+1, d, number, ok, n)
				}
				if year, month, day, ok := Date(n); year != y || month != k+1 || day != d || !ok {
					t.Fatalf("Date(%d): %d, %d, %d, %v; want %d, %d, %d, true", n, year, month, day, ok, y, k+1, d)
				}
				if End(n) != (d == last) || Week(n) != week {
					t.Fatalf("End(%d), Week(%d): %v, %d; want %v, %d", n, n, End(n), Week(n), d == last, week)
				}
				n, week = n+1, (week+1)%7
			}
		}
	}
	if n != api.MaxDay+1 {
		t.Errorf("%d is the number behind the last day; want %d", n, api.MaxDay+1)
	}
}

// P3.4: held against another calendar.
func TestDaysAgreeWithTheLibrary(t *testing.T) {
	for n := api.MinDay; n <= api.MaxDay; n += 13 {
		want := time.Unix(int64(n)*api.Day, 0).UTC()
		y, m, d, ok := Date(n)
		if y != want.Year() || m != int(want.Month()) || d != want.Day() || !ok {
			t.Fatalf("Date(%d): %d, %d, %d, %v; want %s, true", n, y, m, d, ok, want)
		}
		if w := Week(n); w != int(want.Weekday()) {
			t.Fatalf("Week(%d): %d; want %d", n, w, want.Weekday())
		}
		if end := want.AddDate(0, 0, 1).Day() == 1; End(n) != end {
			t.Fatalf("End(%d): %v; want %v", n, !end, end)
		}
	}
}
