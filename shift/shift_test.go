package shift_test

import (
	"math"
	"testing"

	"almanacker/api"
	"almanacker/code"
	"almanacker/cycle"
	"almanacker/heb"
	"almanacker/shift"
)

var (
	leapCode = api.Code{Num: 5, Leap: true}
	adar     = api.Code{Num: 6}
)

func TestInto(t *testing.T) {
	tests := []struct {
		y    int
		c    api.Code
		mode int
		want api.Code
		err  api.Errno
	}{
		{5785, leapCode, api.Constrain, adar, api.OK},
		{5785, leapCode, api.Reject, api.Code{}, api.ErrReject},
		{5784, leapCode, api.Constrain, leapCode, api.OK},
		{5784, leapCode, api.Reject, leapCode, api.OK},
		{1, leapCode, api.Constrain, adar, api.OK},
		{9999, leapCode, api.Reject, api.Code{}, api.ErrReject},
		{5785, adar, api.Reject, adar, api.OK},
		{5784, adar, api.Constrain, adar, api.OK},
		{5785, leapCode, 2, api.Code{}, api.ErrArg},
		{0, api.Code{}, -1, api.Code{}, api.ErrArg},
		{10000, leapCode, math.MaxInt, api.Code{}, api.ErrArg},
		{0, leapCode, api.Reject, api.Code{}, api.ErrRange},
		{10000, api.Code{}, api.Constrain, api.Code{}, api.ErrRange},
		{math.MinInt, adar, api.Constrain, api.Code{}, api.ErrRange},
		{math.MaxInt, adar, api.Constrain, api.Code{}, api.ErrRange},
		{5785, api.Code{}, api.Constrain, api.Code{}, api.ErrMonth},
		{5785, api.Code{Num: 13}, api.Reject, api.Code{}, api.ErrMonth},
		{5785, api.Code{Num: 6, Leap: true}, api.Constrain, api.Code{}, api.ErrMonth},
		{5784, api.Code{Num: 4, Leap: true}, api.Reject, api.Code{}, api.ErrMonth},
		{5784, api.Code{Num: math.MinInt}, api.Reject, api.Code{}, api.ErrMonth},
	}
	for _, x := range tests {
		if c, e := shift.Into(x.y, x.c, x.mode); c != x.want || e != x.err {
			t.Errorf("Into(%d, %v, %d) = %v, %d; want %v, %d", x.y, x.c, x.mode, c, e, x.want, x.err)
		}
	}
}

func TestCodesThatEachYearHasStay(t *testing.T) {
	for y := 1; y <= 9999; y += 11 {
		for num := 1; num <= 12; num++ {
			for mode := api.Constrain; mode <= api.Reject; mode++ {
				c := api.Code{Num: num}
				if r, e := shift.Into(y, c, mode); r != c || e != api.OK {
					t.Fatalf("Into(%d, %v, %d) = %v, %d", y, c, mode, r, e)
				}
			}
		}
	}
}

// month is one of a year.
type month struct {
	y int
	c api.Code
}

// all are the months of all years, in order.
func all() []month {
	var l []month
	for y := 1; y <= 9999; y++ {
		leap, _ := cycle.Leap(y)
		for m := 1; m <= 13; m++ {
			if c, ok := code.Of(leap, m); ok {
				l = append(l, month{y, c})
			}
		}
	}
	return l
}

func TestMonthsOneByOne(t *testing.T) {
	l := all()
	from := []int{0, 1, 60000, len(l) - 1}
	for i, want := range l {
		for _, start := range from {
			a := l[start]
			y, c, e := shift.Months(a.y, a.c, i-start)
			if (month{y, c}) != want || e != api.OK {
				t.Fatalf("Months(%v, %d) = %d, %v, %d; want %v", a, i-start, y, c, e, want)
			}
			y, c, e = shift.Months(want.y, want.c, start-i)
			if (month{y, c}) != a || e != api.OK {
				t.Fatalf("Months(%v, %d) = %d, %v, %d; want %v", want, start-i, y, c, e, a)
			}
		}
	}
}

func TestMonthsBeyond(t *testing.T) {
	first, last := api.Code{Num: 1}, api.Code{Num: 12}
	tests := []struct {
		y   int
		c   api.Code
		n   int
		err api.Errno
	}{
		{1, first, -1, api.ErrRange},
		{9999, last, 1, api.ErrRange},
		{1, first, 123672, api.ErrRange},
		{9999, last, -123672, api.ErrRange},
		{5784, first, api.MaxSpan, api.ErrRange},
		{5784, first, -api.MaxSpan, api.ErrRange},
		{5784, first, api.MaxSpan + 1, api.ErrArg},
		{5784, first, -api.MaxSpan - 1, api.ErrArg},
		{5784, first, math.MaxInt, api.ErrArg},
		{5784, first, math.MinInt, api.ErrArg},
		{0, first, 1, api.ErrRange},
		{10000, first, -1, api.ErrRange},
		{0, api.Code{}, math.MaxInt, api.ErrRange},
		{5785, leapCode, math.MaxInt, api.ErrMonth},
		{5785, leapCode, 0, api.ErrMonth},
		{5785, api.Code{Num: 13}, 1, api.ErrMonth},
		{math.MinInt, first, 0, api.ErrRange},
	}
	for _, x := range tests {
		if y, c, e := shift.Months(x.y, x.c, x.n); y != 0 || c != (api.Code{}) || e != x.err {
			t.Errorf("Months(%d, %v, %d) = %d, %v, %d; want %d", x.y, x.c, x.n, y, c, e, x.err)
		}
	}
	if y, c, e := shift.Months(1, first, len(all())-1); y != 9999 || c != last || e != api.OK {
		t.Errorf("the last month: %d, %v, %d", y, c, e)
	}
	if y, c, e := shift.Months(5784, last, 1); y != 5785 || c != first || e != api.OK {
		t.Errorf("a month behind M12 of 5784: %d, %v, %d", y, c, e)
	}
}

func TestFit(t *testing.T) {
	heshvan := api.Code{Num: 2}
	tests := []struct {
		y         int
		c         api.Code
		day, mode int
		want      int
		err       api.Errno
	}{
		{5784, heshvan, 29, api.Reject, 29, api.OK},
		{5784, heshvan, 30, api.Constrain, 29, api.OK},
		{5784, heshvan, 30, api.Reject, 0, api.ErrReject},
		{5785, heshvan, 30, api.Reject, 30, api.OK},
		{5785, heshvan, 30, api.Constrain, 30, api.OK},
		{5785, heshvan, 1, api.Constrain, 1, api.OK},
		{5784, leapCode, 30, api.Reject, 30, api.OK},
		{5784, heshvan, 31, api.Constrain, 0, api.ErrDay},
		{5785, heshvan, 31, api.Reject, 0, api.ErrDay},
		{5785, heshvan, 0, api.Constrain, 0, api.ErrDay},
		{5785, heshvan, -1, api.Reject, 0, api.ErrDay},
		{5785, heshvan, math.MinInt, api.Constrain, 0, api.ErrDay},
		{5785, heshvan, math.MaxInt, api.Constrain, 0, api.ErrDay},
		{5785, leapCode, 0, api.Constrain, 0, api.ErrMonth},
		{5785, leapCode, 30, api.Reject, 0, api.ErrMonth},
		{5784, api.Code{}, 31, api.Reject, 0, api.ErrMonth},
		{0, api.Code{}, 31, api.Constrain, 0, api.ErrRange},
		{10000, heshvan, 1, api.Constrain, 0, api.ErrRange},
		{10000, heshvan, 0, 2, 0, api.ErrArg},
		{5785, heshvan, 1, -1, 0, api.ErrArg},
		{5785, heshvan, 1, math.MinInt, 0, api.ErrArg},
	}
	for _, x := range tests {
		if n, e := shift.Fit(x.y, x.c, x.day, x.mode); n != x.want || e != x.err {
			t.Errorf("Fit(%d, %v, %d, %d) = %d, %d; want %d, %d", x.y, x.c, x.day, x.mode, n, e, x.want, x.err)
		}
	}
}

func TestFitOfEachMonth(t *testing.T) {
	for _, m := range all()[70000:70500] {
		last, _ := heb.Last(m.y, m.c)
		for day := 1; day <= 30; day++ {
			n, e := shift.Fit(m.y, m.c, day, api.Constrain)
			if n != min(day, last) || e != api.OK {
				t.Fatalf("Fit(%v, %d) = %d, %d", m, day, n, e)
			}
		}
	}
}
