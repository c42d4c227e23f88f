package heb_test

import (
	"math"
	"testing"

	"almanacker/api"
	"almanacker/closed"
	"almanacker/heb"
	"almanacker/newyear"
)

func date(y, num int, leap bool, day int) api.Date {
	return api.Date{Year: y, Month: api.Code{Num: num, Leap: leap}, Day: day}
}

// wrong are dates that may not be, and why.
var wrong = []struct {
	d   api.Date
	err api.Errno
}{
	{date(0, 1, false, 1), api.ErrRange},
	{date(10000, 1, false, 1), api.ErrRange},
	{date(-5784, 0, false, 0), api.ErrRange},
	{date(0, 13, false, 40), api.ErrRange},
	{date(10000, 5, true, 31), api.ErrRange},
	{date(math.MinInt, 1, false, 1), api.ErrRange},
	{date(math.MaxInt, 1, false, 1), api.ErrRange},
	{date(5785, 5, true, 1), api.ErrMonth},
	{date(5785, 5, true, 0), api.ErrMonth},
	{date(5784, 0, false, 1), api.ErrMonth},
	{date(5784, 13, false, 1), api.ErrMonth},
	{date(5784, 6, true, 1), api.ErrMonth},
	{date(5784, -1, false, 31), api.ErrMonth},
	{date(5784, math.MaxInt, true, 1), api.ErrMonth},
	{date(5784, 1, false, 0), api.ErrDay},
	{date(5784, 1, false, 31), api.ErrDay},
	{date(5784, 1, false, -1), api.ErrDay},
	{date(5784, 2, false, 30), api.ErrDay},
	{date(5784, 3, false, 30), api.ErrDay},
	{date(5784, 5, true, 31), api.ErrDay},
	{date(5784, 6, false, 30), api.ErrDay},
	{date(5785, 6, false, 30), api.ErrDay},
	{date(9999, 12, false, 30), api.ErrDay},
	{date(5784, 1, false, math.MinInt), api.ErrDay},
	{date(5784, 1, false, math.MaxInt), api.ErrDay},
}

// known are dates whose days other calendars' tables tell.
var known = []struct {
	d   api.Date
	day int
}{
	{date(1, 1, false, 1), -1373427},
	{date(5785, 1, false, 1), 739162},
	{date(5784, 5, true, 30), 738955},
	{date(5784, 6, false, 1), 738956},
	{date(5784, 7, false, 15), 738999},
	{date(5784, 12, false, 29), 739161},
	{date(5785, 2, false, 30), 739221},
	{date(5785, 3, false, 30), 739251},
	{date(5708, 8, false, 5), 711261}, // 14 May 1948
}

func TestWrongDates(t *testing.T) {
	for _, x := range wrong {
		if e := heb.Check(x.d); e != x.err {
			t.Errorf("Check(%v) = %d; want %d", x.d, e, x.err)
		}
		if day, e := heb.ToDay(x.d); day != 0 || e != x.err {
			t.Errorf("ToDay(%v) = %d, %d; want %d", x.d, day, e, x.err)
		}
	}
}

func TestKnownDates(t *testing.T) {
	for _, x := range known {
		if e := heb.Check(x.d); e != api.OK {
			t.Errorf("Check(%v) = %d", x.d, e)
		}
		if day, e := heb.ToDay(x.d); day != x.day || e != api.OK {
			t.Errorf("ToDay(%v) = %d, %d; want %d", x.d, day, e, x.day)
		}
		if d, e := heb.FromDay(x.day); d != x.d || e != api.OK {
			t.Errorf("FromDay(%d) = %v, %d; want %v", x.day, d, e, x.d)
		}
	}
}

// behind tells the date that may stand behind d: the next day, or the first of a next month.
func behind(d, next api.Date) bool {
	c, n := d.Month, next.Month
	switch {
	case d.Year != next.Year:
		return next == date(d.Year+1, 1, false, 1) && c.Num == 12 && d.Day == 29
	case c == n:
		return next.Day == d.Day+1
	case n.Leap:
		return c == api.Code{Num: 5} && d.Day == 30 && next.Day == 1
	}
	return next.Day == 1 && d.Day >= 29 && n.Num == c.Num+1
}

func TestDaysAndDatesGoTogether(t *testing.T) {
	// Two whole cycles of nineteen years, at the ends and amid, and the years next to them.
	for _, from := range []int{1, 5770, 9975} {
		day, _ := newyear.First(from)
		last, _ := newyear.First(from + 25)
		ahead, e := heb.FromDay(day)
		if e != api.OK || ahead != date(from, 1, false, 1) {
			t.Fatalf("FromDay(%d) = %v, %d", day, ahead, e)
		}
		for day++; day < last; day++ {
			d, e := heb.FromDay(day)
			if e != api.OK || !behind(ahead, d) || !heb.Less(ahead, d) || heb.Less(d, ahead) {
				t.Fatalf("FromDay(%d) = %v, %d, behind %v", day, d, e, ahead)
			}
			if back, e := heb.ToDay(d); back != day || e != api.OK {
				t.Fatalf("ToDay(%v) = %d, %d; want %d", d, back, e, day)
			}
			ahead = d
		}
	}
}

func TestEachYearsEnds(t *testing.T) {
	for y := 1; y <= 9999; y++ {
		first, _ := newyear.First(y)
		next, _ := newyear.First(y + 1)
		for day, want := range map[int]api.Date{first: date(y, 1, false, 1), first + 29: date(y, 1, false, 30), next - 1: date(y, 12, false, 29), next - 163: date(y, 7, false, 15)} {
			if d, e := heb.FromDay(day); d != want || e != api.OK {
				t.Fatalf("FromDay(%d) = %v, %d; want %v", day, d, e, want)
			}
			if n, e := heb.ToDay(want); n != day || e != api.OK {
				t.Fatalf("ToDay(%v) = %d, %d; want %d", want, n, e, day)
			}
		}
	}
}

func TestDaysBeyond(t *testing.T) {
	for _, day := range []int{-1373428, closed.Last() + 1, math.MinInt, math.MaxInt} {
		if d, e := heb.FromDay(day); d != (api.Date{}) || e != api.ErrRange {
			t.Errorf("FromDay(%d) = %v, %d", day, d, e)
		}
	}
	if d, e := heb.FromDay(closed.Last()); d != date(9999, 12, false, 29) || e != api.OK {
		t.Errorf("the last day: %v, %d", d, e)
	}
}

func TestLessOfAnyTwo(t *testing.T) {
	order := []api.Date{
		date(math.MinInt, 99, true, 99), date(-1, 5, false, 1), date(0, 0, false, 0), date(5784, -3, false, 7), date(5784, 5, false, 29),
		date(5784, 5, false, 30), date(5784, 5, true, -1), date(5784, 5, true, 1), date(5784, 6, false, 1), date(5784, 6, true, 0),
		date(5784, 12, false, math.MaxInt), date(5785, 1, false, math.MinInt), date(5785, 1, false, 1), date(math.MaxInt, 0, false, 0),
	}
	for i, a := range order {
		for j, b := range order {
			if less := heb.Less(a, b); less != (i < j) {
				t.Errorf("Less(%v, %v) = %v", a, b, less)
			}
		}
	}
}

func TestLast(t *testing.T) {
	tests := []struct {
		y, num int
		leap   bool
		want   int
		err    api.Errno
	}{
		{5784, 1, false, 30, api.OK}, {5784, 2, false, 29, api.OK}, {5784, 3, false, 29, api.OK}, {5784, 4, false, 29, api.OK},
		{5784, 5, false, 30, api.OK}, {5784, 5, true, 30, api.OK}, {5784, 6, false, 29, api.OK}, {5784, 7, false, 30, api.OK},
		{5785, 2, false, 30, api.OK}, {5785, 3, false, 30, api.OK}, {5785, 6, false, 29, api.OK}, {5785, 12, false, 29, api.OK},
		{5786, 2, false, 29, api.OK}, {5786, 3, false, 30, api.OK}, {5785, 5, true, 0, api.ErrMonth}, {5785, 13, false, 0, api.ErrMonth},
		{5785, 0, false, 0, api.ErrMonth}, {5784, 7, true, 0, api.ErrMonth}, {0, 1, false, 0, api.ErrRange}, {10000, 1, false, 0, api.ErrRange},
		{10000, 13, false, 0, api.ErrRange}, {math.MinInt, 0, true, 0, api.ErrRange}, {1, 1, false, 30, api.OK}, {9999, 12, false, 29, api.OK},
	}
	for _, x := range tests {
		c := api.Code{Num: x.num, Leap: x.leap}
		if n, e := heb.Last(x.y, c); n != x.want || e != x.err {
			t.Errorf("Last(%d, %v) = %d, %d; want %d, %d", x.y, c, n, e, x.want, x.err)
		}
	}
}
