package add_test

import (
	"math"
	"testing"

	"almanacker/add"
	"almanacker/api"
	"almanacker/closed"
	"almanacker/heb"
	"almanacker/shift"
)

const most = api.MaxSpan

func date(y, num int, leap bool, day int) api.Date {
	return api.Date{Year: y, Month: api.Code{Num: num, Leap: leap}, Day: day}
}

func span(years, months, weeks, days int) api.Span {
	return api.Span{Years: years, Months: months, Weeks: weeks, Days: days}
}

func TestRight(t *testing.T) {
	for _, n := range []int{0, 1, -1, most, -most} {
		for _, s := range []api.Span{span(n, 0, 0, 0), span(0, n, 0, 0), span(0, 0, n, 0), span(0, 0, 0, n), span(n, n, n, n)} {
			if !add.Right(s) {
				t.Errorf("Right(%v) = false", s)
			}
		}
	}
	for _, n := range []int{most + 1, -most - 1, math.MinInt, math.MaxInt} {
		for _, s := range []api.Span{span(n, 0, 0, 0), span(0, n, 0, 0), span(0, 0, n, 0), span(0, 0, 0, n), span(n, n, n, n)} {
			if add.Right(s) {
				t.Errorf("Right(%v) = true", s)
			}
		}
	}
}

func TestMinus(t *testing.T) {
	for _, s := range []api.Span{{}, span(1, -2, 3, -4), span(most, -most, most, -most)} {
		want := span(-s.Years, -s.Months, -s.Weeks, -s.Days)
		if m := add.Minus(s); m != want {
			t.Errorf("Minus(%v) = %v", s, m)
		}
	}
}

// tests of To: with Constrain, then with Reject.
var tests = []struct {
	d      api.Date
	s      api.Span
	want   api.Date
	err    api.Errno
	reject api.Errno
}{
	{date(5784, 5, true, 30), span(1, 0, 0, 0), date(5785, 6, false, 29), api.OK, api.ErrReject},
	{date(5784, 5, true, 1), span(1, 0, 0, 0), date(5785, 6, false, 1), api.OK, api.ErrReject},
	{date(5784, 5, true, 30), span(3, 0, 0, 0), date(5787, 5, true, 30), api.OK, api.OK},
	{date(5784, 5, true, 30), span(0, 1, 0, 0), date(5784, 6, false, 29), api.OK, api.ErrReject},
	{date(5784, 5, true, 30), span(1, 1, 0, 0), date(5785, 7, false, 30), api.OK, api.ErrReject},
	{date(5784, 5, true, 30), span(0, 2, 0, 0), date(5784, 7, false, 30), api.OK, api.OK},
	{date(5784, 1, false, 30), span(0, 1, 0, 1), date(5784, 3, false, 1), api.OK, api.ErrReject},
	{date(5784, 1, false, 30), span(0, -1, 0, 0), date(5783, 12, false, 29), api.OK, api.ErrReject},
	{date(5784, 1, false, 30), span(0, 13, 0, 0), date(5785, 1, false, 30), api.OK, api.OK},
	{date(5784, 1, false, 30), span(1, 0, 0, 0), date(5785, 1, false, 30), api.OK, api.OK},
	{date(5785, 1, false, 30), span(0, 12, 0, 0), date(5786, 1, false, 30), api.OK, api.OK},
	{date(5784, 1, false, 30), span(0, 0, 1, 1), date(5784, 2, false, 8), api.OK, api.OK},
	{date(5784, 1, false, 30), span(0, 0, 1, -7), date(5784, 1, false, 30), api.OK, api.OK},
	{date(5784, 1, false, 30), span(0, 0, -most, most), api.Date{}, api.ErrRange, api.ErrRange},
	{date(5784, 1, false, 1), span(0, 0, 500000, -3500000), date(5784, 1, false, 1), api.OK, api.OK},
	{date(5785, 2, false, 30), span(-1, 0, 0, 0), date(5784, 2, false, 29), api.OK, api.ErrReject},
	{date(9998, 3, false, 1), span(1, 0, 0, 0), date(9999, 3, false, 1), api.OK, api.OK},
	{date(9998, 3, false, 1), span(2, 0, 0, 0), api.Date{}, api.ErrRange, api.ErrRange},
	{date(9998, 3, false, 1), span(2, -20, 0, 0), api.Date{}, api.ErrRange, api.ErrRange},
	{date(2, 3, false, 1), span(-1, 0, 0, 0), date(1, 3, false, 1), api.OK, api.OK},
	{date(2, 3, false, 1), span(-2, 0, 0, 0), api.Date{}, api.ErrRange, api.ErrRange},
	{date(2, 3, false, 1), span(-2, 20, 0, 0), api.Date{}, api.ErrRange, api.ErrRange},
	{date(5784, 12, false, 29), span(0, 0, 0, 1), date(5785, 1, false, 1), api.OK, api.OK},
	{date(5785, 1, false, 1), span(0, 0, 0, -1), date(5784, 12, false, 29), api.OK, api.OK},
	{date(1, 1, false, 1), span(0, 0, 0, -1), api.Date{}, api.ErrRange, api.ErrRange},
	{date(9999, 12, false, 29), span(0, 0, 0, 1), api.Date{}, api.ErrRange, api.ErrRange},
	{date(9999, 12, false, 29), span(0, 1, 0, -29), api.Date{}, api.ErrRange, api.ErrRange},
	{date(9999, 1, false, 1), span(1, -1, 0, 0), api.Date{}, api.ErrRange, api.ErrRange},
	{date(1, 12, false, 1), span(-1, 12, 0, 0), api.Date{}, api.ErrRange, api.ErrRange},
	{date(5784, 1, false, 1), span(most, -most, 0, 0), api.Date{}, api.ErrRange, api.ErrRange},
	{date(5784, 5, true, 30), span(1, most, 0, 0), api.Date{}, api.ErrRange, api.ErrReject},
	{date(5784, 5, true, 30), span(5000, 0, 0, 0), api.Date{}, api.ErrRange, api.ErrRange},
	{date(5784, 1, false, 30), span(0, 1, most, 0), api.Date{}, api.ErrRange, api.ErrReject},
	{date(5785, 5, true, 30), span(0, 0, 0, 0), api.Date{}, api.ErrMonth, api.ErrMonth},
	{date(5784, 2, false, 30), span(1, 0, 0, 0), api.Date{}, api.ErrDay, api.ErrDay},
	{date(0, 2, false, 30), span(1, 0, 0, 0), api.Date{}, api.ErrRange, api.ErrRange},
	{date(10000, 1, false, 1), span(-1, 0, 0, 0), api.Date{}, api.ErrRange, api.ErrRange},
	{date(5784, 13, false, 0), span(most, 0, 0, 0), api.Date{}, api.ErrMonth, api.ErrMonth},
	{date(5784, 13, false, 0), span(most+1, 0, 0, 0), api.Date{}, api.ErrArg, api.ErrArg},
	{date(math.MaxInt, 13, false, 0), span(0, 0, 0, -most-1), api.Date{}, api.ErrArg, api.ErrArg},
	{date(math.MaxInt, 1, false, 1), span(most, 0, 0, 0), api.Date{}, api.ErrRange, api.ErrRange},
	{date(5784, 1, false, 1), span(0, 0, math.MinInt, 0), api.Date{}, api.ErrArg, api.ErrArg},
	{date(5784, 1, false, 1), span(0, math.MaxInt, 0, 0), api.Date{}, api.ErrArg, api.ErrArg},
}

func TestTo(t *testing.T) {
	for _, x := range tests {
		for mode, err := range []api.Errno{x.err, x.reject} {
			want := x.want
			if err != api.OK {
				want = api.Date{}
			}
			if d, e := add.To(x.d, x.s, mode); d != want || e != err {
				t.Errorf("To(%v, %v, %d) = %v, %d; want %v, %d", x.d, x.s, mode, d, e, want, err)
			}
		}
	}
	for _, mode := range []int{-1, 2, math.MinInt, math.MaxInt} {
		if d, e := add.To(date(0, 0, false, 0), api.Span{}, mode); d != (api.Date{}) || e != api.ErrArg {
			t.Errorf("mode %d: %v, %d", mode, d, e)
		}
	}
}

func TestNothingAddedAndDaysThereAndBack(t *testing.T) {
	last := closed.Last()
	for day := -1373427; day <= last; day += 4999 {
		d, _ := heb.FromDay(day)
		for mode := api.Constrain; mode <= api.Reject; mode++ {
			if r, e := add.To(d, api.Span{}, mode); r != d || e != api.OK {
				t.Fatalf("To(%v, nothing) = %v, %d", d, r, e)
			}
			for _, s := range []api.Span{span(0, 0, 0, 400), span(0, 0, 57, 0), span(0, 0, -3, 20), span(0, 0, 100000, -700001)} {
				on := day + 7*s.Weeks + s.Days
				want, missing := heb.FromDay(on)
				r, e := add.To(d, s, mode)
				if r != want || e != missing {
					t.Fatalf("To(%v, %v) = %v, %d; want %v, %d", d, s, r, e, want, missing)
				}
				if back, e := add.To(r, add.Minus(s), mode); missing == api.OK && (back != d || e != api.OK) {
					t.Fatalf("To(%v, back %v) = %v, %d; want %v", r, s, back, e, d)
				}
			}
		}
	}
}

// steps tells the same as To with Constrain, of dates and years that there are.
func steps(d api.Date, s api.Span) (api.Date, api.Errno) {
	c, _ := shift.Into(d.Year+s.Years, d.Month, api.Constrain)
	y, c, e := shift.Months(d.Year+s.Years, c, s.Months)
	if e != api.OK {
		return api.Date{}, e
	}
	n, _ := shift.Fit(y, c, d.Day, api.Constrain)
	day, _ := heb.ToDay(api.Date{Year: y, Month: c, Day: n})
	return heb.FromDay(day + 7*s.Weeks + s.Days)
}

func TestNothingIsRejectedWithConstrain(t *testing.T) {
	spans := []api.Span{span(1, 1, 1, 1), span(-1, -1, -1, -1), span(2, -3, 4, -5), span(1, -13, 0, 0), span(-3, 37, 0, 0), span(0, 7, 0, 0), span(5, 0, 0, 0)}
	for day := 738700; day < 739700; day++ {
		d, _ := heb.FromDay(day)
		for _, s := range spans {
			want, missing := steps(d, s)
			if r, e := add.To(d, s, api.Constrain); r != want || e != missing || e == api.ErrReject {
				t.Fatalf("To(%v, %v) = %v, %d; want %v", d, s, r, e, want)
			}
		}
	}
}
