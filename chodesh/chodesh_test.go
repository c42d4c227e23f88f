package chodesh_test

import (
	"math"
	"slices"
	"testing"

	"almanacker/api"
	"almanacker/chodesh"
	"almanacker/closed"
	"almanacker/heb"
	"almanacker/newyear"
)

// years are those at both ends, and more than a cycle of nineteen amid.
func years() []int {
	l := []int{1, 2, 3, 9997, 9998, 9999}
	for y := 5765; y <= 5800; y++ {
		l = append(l, y)
	}
	return l
}

func TestNewMoonsDaysAreFirstAndThirtiethDays(t *testing.T) {
	for _, y := range years() {
		first, _ := newyear.First(y)
		next, _ := newyear.First(y + 1)
		var want []api.Event
		for day := first; day < next; day++ {
			d, _ := heb.FromDay(day)
			if d.Day == 30 || d.Day == 1 && d.Month.Num != 1 {
				want = append(want, api.Event{Kind: 29, Day: day})
			}
		}
		if l, e := chodesh.Of(y); !slices.Equal(l, want) || e != api.OK {
			t.Errorf("Of(%d) = %v, %d; want %v", y, l, e, want)
		}
	}
}

func TestNewMoonsDaysOfKnownYear(t *testing.T) {
	// 5784: the first one is the 30th of M01, the 15th of October 2023; the last one the 1st of M12.
	l, e := chodesh.Of(5784)
	if len(l) != 18 || e != api.OK {
		t.Fatalf("Of(5784) = %v, %d", l, e)
	}
	if l[0].Day != 738808 || l[1].Day != 738809 || l[17].Day != 739133 {
		t.Errorf("Of(5784) = %v", l)
	}
}

func TestOmerOfEachDay(t *testing.T) {
	for _, y := range years() {
		first, _ := newyear.First(y)
		next, _ := newyear.First(y + 1)
		n := 0
		for day := first; day < next; day++ {
			d, _ := heb.FromDay(day)
			switch {
			case d.Month.Num == 7 && d.Day >= 16 || d.Month.Num == 8 || d.Month.Num == 9 && d.Day <= 5:
				n++
				if got, e := chodesh.Omer(day); got != n || e != api.OK {
					t.Fatalf("Omer of %v = %d, %d; want %d", d, got, e, n)
				}
				if got, e := chodesh.Counted(y, n); got != day || e != api.OK {
					t.Fatalf("Counted(%d, %d) = %d, %d; want %d", y, n, got, e, day)
				}
			default:
				if got, e := chodesh.Omer(day); got != 0 || e != api.OK {
					t.Fatalf("Omer of %v = %d, %d", d, got, e)
				}
			}
		}
		if n != 49 {
			t.Errorf("year %d: %d days", y, n)
		}
	}
}

func TestLagBaOmerIsTheThirtyThird(t *testing.T) {
	day, _ := heb.ToDay(api.Date{Year: 5784, Month: api.Code{Num: 8}, Day: 18})
	if n, e := chodesh.Omer(day); n != 33 || e != api.OK {
		t.Errorf("the 18th of M08: %d, %d", n, e)
	}
}

func TestErrors(t *testing.T) {
	for _, y := range []int{0, -1, 10000, 10001, math.MinInt, math.MaxInt} {
		if l, e := chodesh.Of(y); len(l) != 0 || e != api.ErrRange {
			t.Errorf("Of(%d) = %v, %d", y, l, e)
		}
		for _, n := range []int{1, 49, 0, 50} {
			if day, e := chodesh.Counted(y, n); day != 0 || e != api.ErrRange {
				t.Errorf("Counted(%d, %d) = %d, %d", y, n, day, e)
			}
		}
	}
	for _, n := range []int{0, -1, 50, 51, math.MinInt, math.MaxInt} {
		if day, e := chodesh.Counted(5784, n); day != 0 || e != api.ErrArg {
			t.Errorf("Counted(5784, %d) = %d, %d", n, day, e)
		}
	}
	for _, day := range []int{-1373428, closed.Last() + 1, math.MinInt, math.MaxInt} {
		if n, e := chodesh.Omer(day); n != 0 || e != api.ErrRange {
			t.Errorf("Omer(%d) = %d, %d", day, n, e)
		}
	}
}

func TestAnswersAreNotKept(t *testing.T) {
	l, _ := chodesh.Of(5785)
	want := slices.Clone(l)
	clear(l)
	if again, _ := chodesh.Of(5785); !slices.Equal(again, want) {
		t.Errorf("asked again: %v", again)
	}
}
