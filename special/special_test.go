package special_test

import (
	"math"
	"slices"
	"testing"

	"almanacker/api"
	"almanacker/closed"
	"almanacker/heb"
	"almanacker/molad"
	"almanacker/newyear"
	"almanacker/special"
)

// ends are the months and days from which a Sabbath is sought back, day by day, and how many days behind it the kind's is.
var ends = map[int][3]int{
	api.Shekalim: {6, 1, 0}, api.Zachor: {6, 13, 0}, api.Parah: {7, 1, -7}, api.HaChodesh: {7, 1, 0},
	api.HaGadol: {7, 14, 0}, api.Chazon: {11, 9, 0}, api.Nachamu: {11, 9, 7},
}

func day(t *testing.T, y, num, n int) int {
	t.Helper()
	d, e := heb.ToDay(api.Date{Year: y, Month: api.Code{Num: num}, Day: n})
	if e != api.OK {
		t.Fatalf("year %d, month %d, day %d: error %d", y, num, n, e)
	}
	return d
}

// all are a year's Sabbaths with names.
func all(t *testing.T, y int) map[int]int {
	want := map[int]int{}
	for kind, end := range ends {
		d := day(t, y, end[0], end[1])
		for molad.Weekday(d) != api.Saturday {
			d--
		}
		want[kind] = d + end[2]
	}
	d := day(t, y, 1, 3)
	for molad.Weekday(d) != api.Saturday {
		d++
	}
	want[api.Shuvah] = d
	return want
}

func TestOfEachYear(t *testing.T) {
	for y := 1; y <= 9999; y++ {
		want := all(t, y)
		l, e := special.Of(y)
		if len(l) != len(want) || e != api.OK {
			t.Fatalf("Of(%d) = %v, %d; want %v", y, l, e, want)
		}
		ahead := day(t, y, 1, 1) - 1
		for _, x := range l {
			if want[x.Kind] != x.Day || x.Day <= ahead {
				t.Fatalf("Of(%d) = %v; want %v", y, l, want)
			}
			ahead = x.Day
			if d, _ := heb.FromDay(x.Day); d.Year != y || molad.Weekday(x.Day) != api.Saturday {
				t.Errorf("year %d: %v is %v, on weekday %d", y, x, d, molad.Weekday(x.Day))
			}
		}
		if want[api.Shuvah] >= day(t, y, 1, 10) || want[api.Nachamu] <= day(t, y, 11, 9) {
			t.Errorf("year %d: %v", y, l)
		}
	}
}

func TestKnownSabbaths(t *testing.T) {
	// 5784, from the 23rd of September 2023 to the 17th of August 2024.
	want := []api.Event{
		{Kind: 35, Day: 738786}, {Kind: 30, Day: 738954}, {Kind: 31, Day: 738968}, {Kind: 32, Day: 738975},
		{Kind: 33, Day: 738982}, {Kind: 34, Day: 738996}, {Kind: 36, Day: 739108}, {Kind: 37, Day: 739115},
	}
	l, e := special.Of(5784)
	if e != api.OK {
		t.Fatalf("error %d", e)
	}
	if !slices.Equal(l, want) {
		t.Errorf("Of(5784) = %v; want %v", l, want)
	}
}

func TestNamedOfEachDay(t *testing.T) {
	for _, y := range []int{1, 2, 5781, 5782, 5783, 5784, 5785, 5786, 9998, 9999} {
		first, _ := newyear.First(y)
		next, _ := newyear.First(y + 1)
		kinds := map[int]int{}
		for kind, d := range all(t, y) {
			kinds[d] = kind
		}
		for d := first; d < next; d++ {
			if kind, e := special.Named(d); kind != kinds[d] || e != api.OK {
				t.Fatalf("Named(%d) = %d, %d; want %d", d, kind, e, kinds[d])
			}
		}
	}
}

func TestErrors(t *testing.T) {
	for _, y := range []int{0, -1, 10000, 10001, math.MinInt, math.MaxInt} {
		if l, e := special.Of(y); len(l) != 0 || e != api.ErrRange {
			t.Errorf("Of(%d) = %v, %d", y, l, e)
		}
	}
	for _, d := range []int{-1373428, closed.Last() + 1, math.MinInt, math.MaxInt} {
		if kind, e := special.Named(d); kind != 0 || e != api.ErrRange {
			t.Errorf("Named(%d) = %d, %d", d, kind, e)
		}
	}
}
