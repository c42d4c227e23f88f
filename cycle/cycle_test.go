package cycle_test

import (
	"math"
	"testing"

	"almanacker/api"
	"almanacker/cycle"
)

// leaps are the leap years of years 1 to 19.
var leaps = map[int]bool{3: true, 6: true, 8: true, 11: true, 14: true, 17: true, 19: true}

func TestLeapGoesRoundInNineteenYears(t *testing.T) {
	for y := 0; y <= 10001; y++ {
		want := leaps[(y+18)%19+1]
		if leap, e := cycle.Leap(y); leap != want || e != api.OK {
			t.Errorf("Leap(%d) = %v, %d", y, leap, e)
		}
		months := 12
		if want {
			months = 13
		}
		if n, e := cycle.In(y); n != months || e != api.OK {
			t.Errorf("In(%d) = %d, %d", y, n, e)
		}
	}
}

func TestBeforeIsTheSumOfAllYears(t *testing.T) {
	sum := -13 // year 0 is a leap year, ahead of the beginning
	for y := 0; y <= 10001; y++ {
		n, e := cycle.Before(y)
		if n != sum || e != api.OK {
			t.Fatalf("Before(%d) = %d, %d; want %d", y, n, e, sum)
		}
		in, _ := cycle.In(y)
		sum += in
	}
}

func TestKnownYears(t *testing.T) {
	if leap, _ := cycle.Leap(5784); !leap {
		t.Error("5784 is a leap year")
	}
	if leap, _ := cycle.Leap(5785); leap {
		t.Error("5785 is no leap year")
	}
	for y, want := range map[int]int{0: -13, 1: 0, 2: 12, 4: 37, 20: 235, 5785: 71539} {
		if n, e := cycle.Before(y); n != want || e != api.OK {
			t.Errorf("Before(%d) = %d, %d; want %d", y, n, e, want)
		}
	}
}

func TestYearsThatAreNotReckoned(t *testing.T) {
	for _, y := range []int{-1, -2, 10002, 10003, math.MinInt, math.MaxInt, math.MaxInt / 235, -19} {
		if leap, e := cycle.Leap(y); leap || e != api.ErrRange {
			t.Errorf("Leap(%d) = %v, %d", y, leap, e)
		}
		if n, e := cycle.In(y); n != 0 || e != api.ErrRange {
			t.Errorf("In(%d) = %d, %d", y, n, e)
		}
		if n, e := cycle.Before(y); n != 0 || e != api.ErrRange {
			t.Errorf("Before(%d) = %d, %d", y, n, e)
		}
	}
}
