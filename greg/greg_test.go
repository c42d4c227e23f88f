package greg_test

import (
	"math"
	"testing"
	"time"

	"almanacker/api"
	"almanacker/closed"
	"almanacker/greg"
)

const firstDay = -1373427

func TestLeapOfAnyYear(t *testing.T) {
	known := map[int]bool{
		0: true, 4: true, -4: true, 100: false, -100: false, 400: true, -400: true, 1900: false, 2000: true, 2023: false, 2024: true,
		-1: false, 1: false, -2: false, 2100: false, 10000: true, math.MaxInt: false, math.MinInt: true, math.MinInt + 1: false,
		math.MaxInt - 3: true, 800: true, 200: false, 9900: false,
	}
	for y, want := range known {
		if got := greg.Leap(y); got != want {
			t.Errorf("Leap(%d) = %v", y, got)
		}
	}
	for y := -5000; y <= 8000; y++ {
		want := time.Date(y, 3, 1, 0, 0, 0, 0, time.UTC).AddDate(0, 0, -1).Day() == 29
		if got := greg.Leap(y); got != want {
			t.Errorf("Leap(%d) = %v", y, got)
		}
	}
}

func TestDays(t *testing.T) {
	plain := []int{0, 31, 28, 31, 30, 31, 30, 31, 31, 30, 31, 30, 31, 0}
	for _, y := range []int{2023, 2024, 1900, 2000, 0, -4, -1, math.MinInt, math.MaxInt} {
		for m, want := range plain {
			if m == 2 && greg.Leap(y) {
				want = 29
			}
			if n := greg.Days(y, m); n != want {
				t.Errorf("Days(%d, %d) = %d; want %d", y, m, n, want)
			}
		}
		for _, m := range []int{-1, -12, 14, 24, math.MinInt, math.MaxInt} {
			if n := greg.Days(y, m); n != 0 {
				t.Errorf("Days(%d, %d) = %d", y, m, n)
			}
		}
	}
}

func TestDaysAndDatesGoTogether(t *testing.T) {
	at := time.Date(-3760, 9, 7, 0, 0, 0, 0, time.UTC)
	last := closed.Last()
	for day := firstDay; day <= last; {
		want := api.Civil{Year: at.Year(), Month: int(at.Month()), Day: at.Day()}
		if c, e := greg.FromDay(day); c != want || e != api.OK {
			t.Fatalf("FromDay(%d) = %v, %d; want %v", day, c, e, want)
		}
		if n, e := greg.ToDay(want); n != day || e != api.OK {
			t.Fatalf("ToDay(%v) = %d, %d; want %d", want, n, e, day)
		}
		// Every day of 400 years amid, and of the years next to both ends; of others some.
		step := 11
		if day > 584000 && day < 731000 || day < firstDay+800 || day > last-800 || day > -800 && day < 1600 {
			step = 1
		}
		day += step
		at = at.AddDate(0, 0, step)
	}
}

func TestKnownDates(t *testing.T) {
	known := map[int]api.Civil{
		1: {Year: 1, Month: 1, Day: 1}, 0: {Year: 0, Month: 12, Day: 31}, -365: {Year: 0, Month: 1, Day: 1}, -366: {Year: -1, Month: 12, Day: 31},
		739162: {Year: 2024, Month: 10, Day: 3}, firstDay: {Year: -3760, Month: 9, Day: 7}, 730120: {Year: 2000, Month: 1, Day: 1},
		730485: {Year: 2000, Month: 12, Day: 31}, 730179: {Year: 2000, Month: 2, Day: 29}, 738945: {Year: 2024, Month: 2, Day: 29},
	}
	for day, want := range known {
		if c, e := greg.FromDay(day); c != want || e != api.OK {
			t.Errorf("FromDay(%d) = %v, %d; want %v", day, c, e, want)
		}
		if n, e := greg.ToDay(want); n != day || e != api.OK {
			t.Errorf("ToDay(%v) = %d, %d; want %d", want, n, e, day)
		}
	}
}

func TestWrongDates(t *testing.T) {
	end, _ := greg.FromDay(closed.Last())
	tests := []struct {
		c   api.Civil
		err api.Errno
	}{
		{api.Civil{Year: -4001, Month: 1, Day: 1}, api.ErrRange},
		{api.Civil{Year: 7001, Month: 13, Day: 1}, api.ErrRange},
		{api.Civil{Year: -4001, Month: 0, Day: 40}, api.ErrRange},
		{api.Civil{Year: math.MinInt, Month: 1, Day: 1}, api.ErrRange},
		{api.Civil{Year: math.MaxInt, Month: 0, Day: 1}, api.ErrRange},
		{api.Civil{Year: -4000, Month: 1, Day: 1}, api.ErrRange},
		{api.Civil{Year: 7000, Month: 12, Day: 31}, api.ErrRange},
		{api.Civil{Year: -4000, Month: 0, Day: 1}, api.ErrMonth},
		{api.Civil{Year: 7000, Month: 13, Day: 1}, api.ErrMonth},
		{api.Civil{Year: 2024, Month: 0, Day: 0}, api.ErrMonth},
		{api.Civil{Year: 2024, Month: math.MinInt, Day: 0}, api.ErrMonth},
		{api.Civil{Year: 2024, Month: math.MaxInt, Day: 1}, api.ErrMonth},
		{api.Civil{Year: -4000, Month: 1, Day: 0}, api.ErrDay},
		{api.Civil{Year: 7000, Month: 4, Day: 31}, api.ErrDay},
		{api.Civil{Year: 2023, Month: 2, Day: 29}, api.ErrDay},
		{api.Civil{Year: 2024, Month: 2, Day: 30}, api.ErrDay},
		{api.Civil{Year: 2024, Month: 2, Day: -1}, api.ErrDay},
		{api.Civil{Year: 2024, Month: 2, Day: math.MaxInt}, api.ErrDay},
		{api.Civil{Year: 2024, Month: 2, Day: math.MinInt}, api.ErrDay},
		{api.Civil{Year: -3760, Month: 9, Day: 6}, api.ErrRange},
		{api.Civil{Year: end.Year, Month: end.Month, Day: end.Day + 1}, api.ErrRange},
	}
	for _, x := range tests {
		if n, e := greg.ToDay(x.c); n != 0 || e != x.err {
			t.Errorf("ToDay(%v) = %d, %d; want %d", x.c, n, e, x.err)
		}
	}
	for _, day := range []int{firstDay - 1, closed.Last() + 1, math.MinInt, math.MaxInt} {
		if c, e := greg.FromDay(day); c != (api.Civil{}) || e != api.ErrRange {
			t.Errorf("FromDay(%d) = %v, %d", day, c, e)
		}
	}
}

func TestLessOfAnyTwo(t *testing.T) {
	order := []api.Civil{
		{Year: math.MinInt, Month: 99, Day: 99}, {Year: -4, Month: 3, Day: 3}, {Year: 0, Month: 0, Day: 0}, {Year: 1, Month: -5, Day: 7},
		{Year: 1, Month: 1, Day: -1}, {Year: 1, Month: 1, Day: 1}, {Year: 1, Month: 1, Day: 31}, {Year: 1, Month: 2, Day: 1},
		{Year: 1, Month: math.MaxInt, Day: math.MinInt}, {Year: 1, Month: math.MaxInt, Day: math.MaxInt}, {Year: 2, Month: 1, Day: 1},
		{Year: math.MaxInt, Month: math.MinInt, Day: 0},
	}
	for i, a := range order {
		for j, b := range order {
			if less := greg.Less(a, b); less != (i < j) {
				t.Errorf("Less(%v, %v) = %v", a, b, less)
			}
		}
	}
}
