package until_test

import (
	"math"
	"testing"

	"almanacker/add"
	"almanacker/api"
	"almanacker/closed"
	"almanacker/heb"
	"almanacker/until"
)

func date(y, num int, leap bool, day int) api.Date {
	return api.Date{Year: y, Month: api.Code{Num: num, Leap: leap}, Day: day}
}

func span(years, months, weeks, days int) api.Span {
	return api.Span{Years: years, Months: months, Weeks: weeks, Days: days}
}

func TestKnownDurations(t *testing.T) {
	adarI30, adar29 := date(5784, 5, true, 30), date(5785, 6, false, 29)
	first, last := date(1, 1, false, 1), date(9999, 12, false, 29)
	tests := []struct {
		a, b api.Date
		unit int
		want api.Span
	}{
		{adarI30, adar29, api.Years, span(1, 0, 0, 0)},
		{adarI30, adar29, api.Months, span(0, 13, 0, 0)},
		{adarI30, adar29, api.Days, span(0, 0, 0, 384)},
		{adarI30, adar29, api.Weeks, span(0, 0, 54, 6)},
		{adar29, adarI30, api.Years, span(-1, 0, 0, -29)},
		{adar29, adarI30, api.Months, span(0, -12, 0, -29)},
		{adar29, adarI30, api.Weeks, span(0, 0, -54, -6)},
		{adar29, adarI30, api.Days, span(0, 0, 0, -384)},
		{adar29, adar29, api.Years, span(0, 0, 0, 0)},
		{adar29, adar29, api.Days, span(0, 0, 0, 0)},
		{date(5784, 1, false, 30), date(5784, 2, false, 29), api.Months, span(0, 1, 0, 0)},
		{date(5784, 2, false, 29), date(5784, 1, false, 30), api.Months, span(0, 0, 0, -29)},
		{date(5784, 1, false, 1), date(5785, 1, false, 1), api.Months, span(0, 13, 0, 0)},
		{date(5784, 1, false, 1), date(5785, 1, false, 1), api.Years, span(1, 0, 0, 0)},
		{date(5785, 1, false, 1), date(5784, 1, false, 1), api.Years, span(-1, 0, 0, 0)},
		{date(5784, 1, false, 2), date(5785, 1, false, 1), api.Years, span(0, 12, 0, 28)},
		{first, last, api.Years, span(9998, 11, 0, 28)},
		{last, first, api.Years, span(-9998, -11, 0, -28)},
		{first, last, api.Days, span(0, 0, 0, 3652077)},
		{last, first, api.Days, span(0, 0, 0, -3652077)},
		{first, last, api.Months, span(0, 123670, 0, 28)},
		{first, last, api.Weeks, span(0, 0, 521725, 2)},
	}
	for _, x := range tests {
		if s, e := until.Date(x.a, x.b, x.unit); s != x.want || e != api.OK {
			t.Errorf("Date(%v, %v, %d) = %v, %d; want %v", x.a, x.b, x.unit, s, e, x.want)
		}
	}
}

func TestErrors(t *testing.T) {
	good := date(5784, 1, false, 1)
	tests := []struct {
		a, b api.Date
		unit int
		err  api.Errno
	}{
		{good, good, 4, api.ErrArg},
		{good, good, -1, api.ErrArg},
		{date(0, 0, false, 0), date(0, 0, false, 0), math.MinInt, api.ErrArg},
		{good, good, math.MaxInt, api.ErrArg},
		{date(0, 1, false, 1), good, api.Days, api.ErrRange},
		{good, date(10000, 1, false, 1), api.Weeks, api.ErrRange},
		{date(5785, 5, true, 1), date(0, 1, false, 1), api.Months, api.ErrMonth},
		{good, date(5785, 5, true, 1), api.Years, api.ErrMonth},
		{date(5784, 2, false, 30), date(0, 1, false, 1), api.Days, api.ErrDay},
		{good, date(5784, 2, false, 30), api.Years, api.ErrDay},
		{date(math.MaxInt, 1, false, 1), date(math.MinInt, 0, false, 0), api.Days, api.ErrRange},
	}
	for _, x := range tests {
		if s, e := until.Date(x.a, x.b, x.unit); s != (api.Span{}) || e != x.err {
			t.Errorf("Date(%v, %v, %d) = %v, %d; want %d", x.a, x.b, x.unit, s, e, x.err)
		}
	}
}

// apart tells how many days b is behind a.
func apart(a, b api.Date) int {
	x, _ := heb.ToDay(a)
	y, _ := heb.ToDay(b)
	return y - x
}

// beyond tells whether s leads from a further than to b, by the sign of the way.
func beyond(a, b api.Date, s api.Span, sign int) bool {
	at, e := add.To(a, s, api.Constrain)
	return e != api.OK || sign*apart(b, at) > 0
}

// hold holds a duration against what follows of its words.
func hold(t *testing.T, a, b api.Date, unit int) {
	t.Helper()
	s, e := until.Date(a, b, unit)
	if e != api.OK {
		t.Fatalf("Date(%v, %v, %d): error %d", a, b, unit, e)
	}
	if at, e := add.To(a, s, api.Constrain); at != b || e != api.OK {
		t.Fatalf("Date(%v, %v, %d) = %v, that leads to %v", a, b, unit, s, at)
	}
	sign := 1
	if apart(a, b) < 0 {
		sign = -1
	}
	for _, n := range []int{s.Years, s.Months, s.Weeks, s.Days} {
		if n*sign < 0 {
			t.Fatalf("Date(%v, %v, %d) = %v", a, b, unit, s)
		}
	}
	good := true
	switch unit {
	case api.Days:
		good = s == span(0, 0, 0, apart(a, b))
	case api.Weeks:
		good = s == span(0, 0, apart(a, b)/7, apart(a, b)%7)
	case api.Months:
		good = s.Years == 0 && s.Weeks == 0 && beyond(a, b, span(0, s.Months+sign, 0, 0), sign)
	case api.Years:
		good = s.Weeks == 0 && beyond(a, b, span(s.Years+sign, 0, 0, 0), sign) && beyond(a, b, span(s.Years, s.Months+sign, 0, 0), sign)
	}
	if !good {
		t.Fatalf("Date(%v, %v, %d) = %v", a, b, unit, s)
	}
}

func TestWhatFollowsOfDaysNearBy(t *testing.T) {
	for _, from := range []int{738955, 738780, 738809, 739251} { // 30ths of M05L, M01 and M03 among them
		for start := from - 2; start <= from+2; start++ {
			a, _ := heb.FromDay(start)
			for day := start - 800; day <= start+800; day += 3 {
				b, _ := heb.FromDay(day)
				for unit := api.Days; unit <= api.Years; unit++ {
					hold(t, a, b, unit)
				}
			}
		}
	}
}

func TestWhatFollowsOfDaysFarAway(t *testing.T) {
	last := closed.Last()
	days := []int{-1373427, -1373426, last, last - 1}
	for day := -1373400; day < last; day += 140009 {
		days = append(days, day)
	}
	for _, x := range days {
		for _, y := range days {
			a, _ := heb.FromDay(x)
			b, _ := heb.FromDay(y)
			for unit := api.Days; unit <= api.Years; unit++ {
				hold(t, a, b, unit)
			}
		}
	}
}
