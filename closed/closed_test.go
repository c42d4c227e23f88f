package closed_test

import (
	"math"
	"testing"

	"almanacker/api"
	"almanacker/closed"
	"almanacker/newyear"
)

func TestNearly(t *testing.T) {
	known := map[int]int{
		-1:    -737, // -25 months
		0:     -384, // -13 months
		1:     0,
		2:     355, // 12 months
		3:     710, // 24 months
		5785:  2112589,
		10002: 3652817,
	}
	for y, want := range known {
		if n, e := closed.Nearly(y); n != want || e != api.OK {
			t.Errorf("Nearly(%d) = %d, %d; want %d", y, n, e, want)
		}
	}
}

// nearly tells the days ahead of a year whose sum of months is kept from year to year.
func nearly(months int) int {
	parts := 12084 + 13753*months
	days := parts / 25920
	if parts < 0 && parts%25920 != 0 {
		days--
	}
	days += 29 * months
	if ((3*days+3)%7+7)%7 < 3 {
		days++
	}
	return days
}

func TestNearlyOfEachYear(t *testing.T) {
	months := -25
	for y := -1; y <= 10002; y++ {
		if n, e := closed.Nearly(y); n != nearly(months) || e != api.OK {
			t.Fatalf("Nearly(%d) = %d, %d; want %d", y, n, e, nearly(months))
		}
		months += 12
		switch ((y % 19) + 19) % 19 {
		case 0, 3, 6, 8, 11, 14, 17:
			months++
		}
	}
}

func TestBothWaysTellTheSameFirstDay(t *testing.T) {
	for y := 0; y <= 10001; y++ {
		want, _ := newyear.First(y)
		if day, e := closed.First(y); day != want || e != api.OK {
			t.Errorf("First(%d) = %d, %d; want %d", y, day, e, want)
		}
	}
	if day, _ := closed.First(5785); day != 739162 {
		t.Errorf("First(5785) = %d", day)
	}
}

func TestYearOfFirstAndLastDays(t *testing.T) {
	for y := 1; y <= 9999; y++ {
		first, _ := newyear.First(y)
		next, _ := newyear.First(y + 1)
		for _, day := range []int{first, first + 1, first + 180, next - 2, next - 1} {
			if got, e := closed.Year(day); got != y || e != api.OK {
				t.Fatalf("Year(%d) = %d, %d; want %d", day, got, e, y)
			}
		}
	}
	if y, e := closed.Year(739161); y != 5784 || e != api.OK {
		t.Errorf("Year(739161) = %d, %d", y, e)
	}
}

func TestLast(t *testing.T) {
	next, _ := newyear.First(10000)
	if day := closed.Last(); day != next-1 || day != 2278650 {
		t.Errorf("Last() = %d; want %d", day, next-1)
	}
}

func TestWhatIsBeyond(t *testing.T) {
	for _, y := range []int{-2, 10003, math.MinInt, math.MaxInt} {
		if n, e := closed.Nearly(y); n != 0 || e != api.ErrRange {
			t.Errorf("Nearly(%d) = %d, %d", y, n, e)
		}
	}
	for _, y := range []int{-2, -1, 10002, 10003, math.MinInt, math.MaxInt} {
		if n, e := closed.First(y); n != 0 || e != api.ErrRange {
			t.Errorf("First(%d) = %d, %d", y, n, e)
		}
	}
	for _, day := range []int{-1373428, closed.Last() + 1, -1373427 - 355, closed.Last() + 400, math.MinInt, math.MaxInt} {
		if y, e := closed.Year(day); y != 0 || e != api.ErrRange {
			t.Errorf("Year(%d) = %d, %d", day, y, e)
		}
	}
}
