package keviah_test

import (
	"math"
	"testing"

	"almanacker/api"
	"almanacker/cycle"
	"almanacker/keviah"
	"almanacker/molad"
	"almanacker/newyear"
)

// types are the fourteen: weekday, kind, and 1 for a leap year.
var types = [15][3]int{
	1: {1, 0, 0}, 2: {1, 2, 0}, 3: {2, 1, 0}, 4: {4, 1, 0}, 5: {4, 2, 0}, 6: {6, 0, 0}, 7: {6, 2, 0},
	8: {1, 0, 1}, 9: {1, 2, 1}, 10: {2, 1, 1}, 11: {4, 0, 1}, 12: {4, 2, 1}, 13: {6, 0, 1}, 14: {6, 2, 1},
}

func typ(n int) api.Keviah {
	return api.Keviah{Begins: types[n][0], Kind: types[n][1], Leap: types[n][2] == 1}
}

func TestTypesAndTheirNumbers(t *testing.T) {
	for n := 1; n <= 14; n++ {
		if k, ok := keviah.Type(n); k != typ(n) || !ok {
			t.Errorf("Type(%d) = %v, %v; want %v", n, k, ok, typ(n))
		}
		if got := keviah.Number(typ(n)); got != n {
			t.Errorf("Number(%v) = %d; want %d", typ(n), got, n)
		}
	}
	for _, n := range []int{0, -1, 15, 16, math.MinInt, math.MaxInt} {
		if k, ok := keviah.Type(n); k != (api.Keviah{}) || ok {
			t.Errorf("Type(%d) = %v, %v", n, k, ok)
		}
	}
}

func TestNumberOfAllThatMightBeTypes(t *testing.T) {
	want := map[api.Keviah]int{}
	for n := 1; n <= 14; n++ {
		want[typ(n)] = n
	}
	for _, leap := range []bool{false, true} {
		for begins := -8; begins <= 15; begins++ {
			for kind := -3; kind <= 4; kind++ {
				k := api.Keviah{Begins: begins, Kind: kind, Leap: leap}
				if n := keviah.Number(k); n != want[k] {
					t.Errorf("Number(%v) = %d; want %d", k, n, want[k])
				}
			}
		}
		for _, far := range []int{math.MinInt, math.MaxInt} {
			for _, k := range []api.Keviah{{Begins: far, Kind: 0, Leap: leap}, {Begins: 1, Kind: far, Leap: leap}} {
				if n := keviah.Number(k); n != 0 {
					t.Errorf("Number(%v) = %d", k, n)
				}
			}
		}
	}
}

func TestEachYear(t *testing.T) {
	seen := map[int]int{}
	for y := 1; y <= 9999; y++ {
		first, _ := newyear.First(y)
		next, _ := newyear.First(y + 1)
		long, e := keviah.Long(y)
		if long != next-first || e != api.OK {
			t.Fatalf("Long(%d) = %d, %d; want %d", y, long, e, next-first)
		}
		leap, _ := cycle.Leap(y)
		want := api.Keviah{Begins: molad.Weekday(first), Kind: long - 353, Leap: leap}
		if leap {
			want.Kind -= 30
		}
		k, e := keviah.Of(y)
		if k != want || e != api.OK {
			t.Fatalf("Of(%d) = %v, %d; want %v", y, k, e, want)
		}
		seen[keviah.Number(k)]++
	}
	if len(seen) != 14 || seen[0] != 0 {
		t.Errorf("types seen: %v", seen)
	}
}

func TestKnownYears(t *testing.T) {
	tests := []struct{ y, long, number int }{
		{5780, 355, 2}, {5781, 353, 6}, {5782, 384, 10}, {5783, 355, 2}, {5784, 383, 13},
		{5785, 355, 5}, {5786, 354, 3}, {1, 355, 2}, {9999, 353, 1},
	}
	for _, x := range tests {
		long, e := keviah.Long(x.y)
		k, f := keviah.Of(x.y)
		if long != x.long || keviah.Number(k) != x.number || e != api.OK || f != api.OK {
			t.Errorf("%d: %d days, %v, number %d; want %d, %d", x.y, long, k, keviah.Number(k), x.long, x.number)
		}
	}
}

func TestYearsBeyond(t *testing.T) {
	for _, y := range []int{0, -1, 10000, 10001, 10002, math.MinInt, math.MaxInt} {
		if n, e := keviah.Long(y); n != 0 || e != api.ErrRange {
			t.Errorf("Long(%d) = %d, %d", y, n, e)
		}
		if k, e := keviah.Of(y); k != (api.Keviah{}) || e != api.ErrRange {
			t.Errorf("Of(%d) = %v, %d", y, k, e)
		}
	}
}
