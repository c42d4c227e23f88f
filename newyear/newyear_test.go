package newyear_test

import (
	"math"
	"testing"

	"almanacker/api"
	"almanacker/cycle"
	"almanacker/molad"
	"almanacker/newyear"
)

// delays are the days put off, from Sunday to Saturday, in a span of parts.
type delays struct {
	from, to int
	leap     bool
	after    bool
	days     [7]int
}

// table is worked out by hand: one row for each span of parts in which nothing changes.
var table = []delays{
	{0, 9923, false, false, [7]int{1, 0, 0, 1, 0, 1, 0}},
	{9924, 19439, false, false, [7]int{1, 0, 2, 1, 0, 1, 0}},
	{19440, 25919, false, false, [7]int{1, 1, 2, 1, 2, 1, 2}},
	{0, 9923, false, true, [7]int{1, 0, 0, 1, 0, 1, 0}},
	{9924, 16788, false, true, [7]int{1, 0, 2, 1, 0, 1, 0}},
	{16789, 19439, false, true, [7]int{1, 1, 2, 1, 0, 1, 0}},
	{19440, 25919, false, true, [7]int{1, 1, 2, 1, 2, 1, 2}},
	{0, 19439, true, false, [7]int{1, 0, 0, 1, 0, 1, 0}},
	{19440, 25919, true, false, [7]int{1, 1, 2, 1, 2, 1, 2}},
	{0, 16788, true, true, [7]int{1, 0, 0, 1, 0, 1, 0}},
	{16789, 19439, true, true, [7]int{1, 1, 0, 1, 0, 1, 0}},
	{19440, 25919, true, true, [7]int{1, 1, 2, 1, 2, 1, 2}},
	{math.MinInt, -1, false, true, [7]int{1, 0, 0, 1, 0, 1, 0}},
	{math.MinInt, -25920, true, true, [7]int{1, 0, 0, 1, 0, 1, 0}},
	{25920, math.MaxInt, true, false, [7]int{1, 1, 2, 1, 2, 1, 2}},
	{25920, math.MaxInt, false, true, [7]int{1, 1, 2, 1, 2, 1, 2}},
}

func TestDelay(t *testing.T) {
	for _, row := range table {
		for _, sunday := range []int{0, 7, -7, 739158, -1373428, 7 * (math.MaxInt/7 - 1), -7 * (math.MaxInt / 7)} {
			for w, want := range row.days {
				for _, parts := range []int{row.from, row.from + (row.to/2 - row.from/2), row.to} {
					m := api.Molad{Day: sunday + w, Parts: parts}
					if n := newyear.Delay(m, row.leap, row.after); n != want {
						t.Errorf("Delay(%v, %v, %v) = %d on weekday %d; want %d", m, row.leap, row.after, n, w, want)
					}
				}
			}
		}
	}
}

func TestDelayOfTheGreatestAndLeastDays(t *testing.T) {
	// Of the greatest day, a Sunday, and of the least one, a Saturday.
	if n := newyear.Delay(api.Molad{Day: math.MaxInt}, false, false); n != 1 {
		t.Errorf("greatest: %d", n)
	}
	if n := newyear.Delay(api.Molad{Day: math.MaxInt - 1, Parts: 19440}, false, false); n != 2 {
		t.Errorf("last but one: %d", n)
	}
	if n := newyear.Delay(api.Molad{Day: math.MinInt, Parts: 19440}, true, true); n != 2 {
		t.Errorf("least: %d", n)
	}
}

func TestFirstIsTheNewMoonPutOff(t *testing.T) {
	after := false
	for y := 0; y <= 10001; y++ {
		m, _ := molad.Of(y, 1)
		leap, _ := cycle.Leap(y)
		want := m.Day + newyear.Delay(m, leap, after)
		if day, e := newyear.First(y); day != want || e != api.OK {
			t.Fatalf("First(%d) = %d, %d; want %d", y, day, e, want)
		}
		after = leap
	}
}

func TestFirstOfKnownYears(t *testing.T) {
	known := map[int]int{
		1:    -1373427,
		5700: 708096, // 14 September 1939
		5708: 711019, // 15 September 1947
		5780: 737332, // 30 September 2019
		5781: 737687, // 19 September 2020
		5782: 738040, // 7 September 2021
		5783: 738424, // 26 September 2022
		5784: 738779, // 16 September 2023
		5785: 739162, // 3 October 2024
		5786: 739517, // 23 September 2025
	}
	for y, want := range known {
		if day, e := newyear.First(y); day != want || e != api.OK {
			t.Errorf("First(%d) = %d, %d; want %d", y, day, e, want)
		}
	}
}

func TestYearsBeginAndEndAsTheyMay(t *testing.T) {
	for y := 0; y <= 10000; y++ {
		day, _ := newyear.First(y)
		next, _ := newyear.First(y + 1)
		switch molad.Weekday(day) {
		case api.Sunday, api.Wednesday, api.Friday:
			t.Errorf("year %d begins on weekday %d", y, molad.Weekday(day))
		}
		least := 353
		if leap, _ := cycle.Leap(y); leap {
			least = 383
		}
		if long := next - day; long < least || long > least+2 {
			t.Errorf("year %d has %d days", y, long)
		}
	}
}

func TestFirstOfYearsThatAreNotReckoned(t *testing.T) {
	for _, y := range []int{-1, 10002, math.MinInt, math.MaxInt} {
		if day, e := newyear.First(y); day != 0 || e != api.ErrRange {
			t.Errorf("First(%d) = %d, %d", y, day, e)
		}
	}
}
