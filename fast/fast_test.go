package fast_test

import (
	"math"
	"slices"
	"testing"

	"almanacker/api"
	"almanacker/fast"
	"almanacker/feast"
	"almanacker/heb"
	"almanacker/molad"
)

// moves are the days by which the kinds are moved, from Sunday to Saturday.
var moves = map[int][7]int{
	2: {0, 0, 0, 0, 0, 0, 1}, 13: {0, 0, 0, 0, 0, 0, -2}, 16: {0, 0, 0, 0, 0, 0, -2}, 19: {1, 0, 0, 0, 0, -1, 0},
	21: {0, 1, 0, 0, 0, -1, -2}, 26: {0, 0, 0, 0, 0, 0, 1}, 27: {0, 0, 0, 0, 0, 0, 1},
}

// dates are the kinds' months and days, ere they are moved.
var dates = map[int][2]int{
	2: {1, 3}, 10: {4, 10}, 13: {6, 13}, 16: {7, 14}, 19: {7, 27}, 21: {8, 5}, 24: {8, 28}, 26: {10, 17}, 27: {11, 9},
}

func TestMoved(t *testing.T) {
	for kind := -3; kind <= 60; kind++ {
		for w := -8; w <= 14; w++ {
			want := 0
			if w >= 0 && w <= 6 {
				want = moves[kind][w]
			}
			if n := fast.Moved(kind, w); n != want {
				t.Errorf("Moved(%d, %d) = %d; want %d", kind, w, n, want)
			}
		}
	}
	for _, far := range []int{math.MinInt, math.MaxInt} {
		if fast.Moved(far, api.Saturday) != 0 || fast.Moved(api.YomHaAtzmaut, far) != 0 {
			t.Errorf("moved, of %d", far)
		}
	}
}

// all are a year's days, in order.
func all(t *testing.T, y int) []api.Event {
	var l []api.Event
	for kind, on := range dates {
		day, e := heb.ToDay(api.Date{Year: y, Month: api.Code{Num: on[0]}, Day: on[1]})
		if e != api.OK {
			t.Fatalf("year %d, kind %d: error %d", y, kind, e)
		}
		day += moves[kind][molad.Weekday(day)]
		l = append(l, api.Event{Kind: kind, Day: day})
		if kind == api.YomHaAtzmaut {
			l = append(l, api.Event{Kind: api.YomHaZikaron, Day: day - 1})
		}
	}
	return feast.Sort(l)
}

func TestOfEachYear(t *testing.T) {
	for y := 1; y <= 9999; y++ {
		l, e := fast.Of(y)
		if want := all(t, y); !slices.Equal(l, want) || e != api.OK {
			t.Fatalf("Of(%d) = %v, %d; want %v", y, l, e, want)
		}
		for _, x := range l {
			w := molad.Weekday(x.Day)
			switch x.Kind {
			case api.FastGedaliah, api.FastTevet, api.FastEsther, api.FastFirstborn, api.FastTammuz, api.FastAv:
				if w == api.Saturday {
					t.Errorf("year %d: the fast %v is a Sabbath", y, x)
				}
			case api.YomHaAtzmaut:
				if w != api.Tuesday && w != api.Wednesday && w != api.Thursday {
					t.Errorf("year %d: %v is on weekday %d", y, x, w)
				}
			}
		}
	}
}

func TestKnownYear(t *testing.T) {
	// 5784: the fast of Gedaliah on the 18th of September 2023, that of Av on the 13th of August 2024.
	want := map[int]int{
		api.FastGedaliah: 738781, api.FastTevet: 738876, api.FastEsther: 738966, api.FastFirstborn: 738998, api.YomHaShoah: 739012,
		api.YomHaZikaron: 739019, api.YomHaAtzmaut: 739020, api.YomYerushalaim: 739042, api.FastTammuz: 739090, api.FastAv: 739111,
	}
	l, e := fast.Of(5784)
	if len(l) != len(want) || e != api.OK {
		t.Fatalf("Of(5784) = %v, %d", l, e)
	}
	for _, x := range l {
		if want[x.Kind] != x.Day {
			t.Errorf("%v; want day %d", x, want[x.Kind])
		}
	}
}

func TestYearsBeyond(t *testing.T) {
	for _, y := range []int{0, -1, 10000, 10001, math.MinInt, math.MaxInt} {
		if l, e := fast.Of(y); len(l) != 0 || e != api.ErrRange {
			t.Errorf("Of(%d) = %v, %d", y, l, e)
		}
	}
}

func TestAnswersAreNotKept(t *testing.T) {
	l, _ := fast.Of(5784)
	want := slices.Clone(l)
	clear(l)
	if again, _ := fast.Of(5784); !slices.Equal(again, want) {
		t.Errorf("asked again: %v", again)
	}
}
