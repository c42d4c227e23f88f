package sabbath_test

import (
	"math"
	"runtime"
	"slices"
	"testing"

	"almanacker/api"
	"almanacker/closed"
	"almanacker/cycle"
	"almanacker/heb"
	"almanacker/molad"
	"almanacker/sabbath"
)

func day(t *testing.T, y, num, n int) int {
	t.Helper()
	d, e := heb.ToDay(api.Date{Year: y, Month: api.Code{Num: num}, Day: n})
	if e != api.OK {
		t.Fatalf("year %d, month %d, day %d: error %d", y, num, n, e)
	}
	return d
}

// cycles are those at both ends, and more than nineteen amid.
func cycles() []int {
	l := []int{1, 2, 3, 9996, 9997, 9998}
	for y := 5760; y <= 5800; y++ {
		l = append(l, y)
	}
	return l
}

// resting tells whether the date of a Sabbath is a feast's without a portion, written out by months.
func resting(d api.Date, place int) bool {
	last := []int{23, 22}[place]
	pesach := []int{22, 21}[place]
	shavuot := []int{7, 6}[place]
	switch d.Month.Num {
	case 1:
		return d.Day <= 2 || d.Day == 10 || d.Day >= 15 && d.Day <= last
	case 7:
		return d.Day >= 15 && d.Day <= pesach
	case 9:
		return d.Day >= 6 && d.Day <= shavuot
	}
	return false
}

func TestSabbathsOfManyCycles(t *testing.T) {
	for _, y := range cycles() {
		for place, end := range []int{23, 22} {
			var all, free []int
			for d := day(t, y, 1, end) + 1; d <= day(t, y+1, 1, end); d++ {
				if molad.Weekday(d) != api.Saturday {
					continue
				}
				all = append(all, d)
				if at, _ := heb.FromDay(d); !resting(at, place) {
					free = append(free, d)
				}
			}
			if l, e := sabbath.All(y, place); !slices.Equal(l, all) || e != api.OK {
				t.Errorf("All(%d, %d) = %v, %d; want %v", y, place, l, e, all)
			}
			if l, e := sabbath.Free(y, place); !slices.Equal(l, free) || e != api.OK {
				t.Errorf("Free(%d, %d) = %v, %d; want %v", y, place, l, e, free)
			}
		}
	}
}

func TestHowManyAreFree(t *testing.T) {
	for y := 1; y <= 9998; y += 5 {
		least, most := 46, 51
		if leap, _ := cycle.Leap(y); leap {
			least, most = 49, 55
		}
		for place := api.Diaspora; place <= api.Israel; place++ {
			l, _ := sabbath.Free(y, place)
			if len(l) < least || len(l) > most {
				t.Errorf("cycle %d, place %d: %d", y, place, len(l))
			}
			all, _ := sabbath.All(y, place)
			for i, d := range all {
				if molad.Weekday(d) != api.Saturday || d != all[0]+7*i {
					t.Fatalf("cycle %d, place %d: %v", y, place, all)
				}
			}
		}
	}
}

func TestKnownSabbath(t *testing.T) {
	l, _ := sabbath.All(5784, api.Diaspora)
	if l[0] != 738807 {
		t.Errorf("the first one of 5784: %d", l[0])
	}
}

func TestPartOfEachDay(t *testing.T) {
	for _, y := range cycles() {
		for d := day(t, y, 1, 1); d <= day(t, y+1, 1, 30); d++ {
			at, _ := heb.FromDay(d)
			n := 100*at.Month.Num + at.Day
			want := 1
			switch {
			case at.Year > y:
				want = 5
			case n > 1109:
				want = 4
			case n > 905:
				want = 3
			case n >= 715:
				want = 2
			}
			if p, e := sabbath.Part(y, d); p != want || e != api.OK {
				t.Fatalf("Part(%d, %v) = %d, %d; want %d", y, at, p, e, want)
			}
		}
		for d, want := range map[int]int{math.MinInt: 1, -1373428: 1, math.MaxInt: 5, closed.Last() + 1: 5} {
			if p, e := sabbath.Part(y, d); p != want || e != api.OK {
				t.Errorf("Part(%d, %d) = %d, %d; want %d", y, d, p, e, want)
			}
		}
	}
}

func TestCycleOfDays(t *testing.T) {
	for _, y := range cycles() {
		for place, end := range []int{23, 22} {
			first, last := day(t, y, 1, end)+1, day(t, y+1, 1, end)
			for _, d := range []int{first, first + 1, first + 100, day(t, y, 12, 29), day(t, y+1, 1, 1), last - 1, last} {
				if n, e := sabbath.Cycle(d, place); n != y || e != api.OK {
					t.Errorf("Cycle(%d, %d) = %d, %d; want %d", d, place, n, e, y)
				}
			}
		}
	}
}

func TestDaysOfNoCycle(t *testing.T) {
	for place, end := range []int{23, 22} {
		ahead, behind := day(t, 1, 1, end), day(t, 9999, 1, end)+1
		for _, d := range []int{ahead, -1373427, -1373428, behind, closed.Last(), closed.Last() + 1, math.MinInt, math.MaxInt} {
			if n, e := sabbath.Cycle(d, place); n != 0 || e != api.ErrRange {
				t.Errorf("Cycle(%d, %d) = %d, %d", d, place, n, e)
			}
		}
	}
}

func TestErrors(t *testing.T) {
	for _, y := range []int{0, -1, 9999, 10000, math.MinInt, math.MaxInt} {
		for place := api.Diaspora; place <= api.Israel; place++ {
			if l, e := sabbath.All(y, place); len(l) != 0 || e != api.ErrRange {
				t.Errorf("All(%d, %d) = %v, %d", y, place, l, e)
			}
			if l, e := sabbath.Free(y, place); len(l) != 0 || e != api.ErrRange {
				t.Errorf("Free(%d, %d) = %v, %d", y, place, l, e)
			}
		}
		for _, d := range []int{0, 738999, math.MinInt, math.MaxInt} {
			if p, e := sabbath.Part(y, d); p != 0 || e != api.ErrRange {
				t.Errorf("Part(%d, %d) = %d, %d", y, d, p, e)
			}
		}
	}
	for _, place := range []int{-1, 2, math.MinInt, math.MaxInt} {
		for _, y := range []int{0, 5784, 9999} {
			if l, e := sabbath.All(y, place); len(l) != 0 || e != api.ErrArg {
				t.Errorf("All(%d, %d) = %v, %d", y, place, l, e)
			}
			if l, e := sabbath.Free(y, place); len(l) != 0 || e != api.ErrArg {
				t.Errorf("Free(%d, %d) = %v, %d", y, place, l, e)
			}
		}
		for _, d := range []int{738999, math.MinInt, math.MaxInt} {
			if n, e := sabbath.Cycle(d, place); n != 0 || e != api.ErrArg {
				t.Errorf("Cycle(%d, %d) = %d, %d", d, place, n, e)
			}
		}
	}
}

func TestNobodyGivesDaysAnyMore(t *testing.T) {
	before := runtime.NumGoroutine()
	for range 100 {
		l, _ := sabbath.All(5784, api.Israel)
		clear(l)
	}
	if after := runtime.NumGoroutine(); after > before+2 {
		t.Errorf("%d goroutines, ahead of it %d", after, before)
	}
}
