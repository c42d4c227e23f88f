package count_test

import (
	"math"
	"testing"

	"almanacker/api"
	"almanacker/closed"
	"almanacker/count"
	"almanacker/heb"
	"almanacker/newyear"
)

const firstDay = -1373427

func date(y, num int, leap bool, day int) api.Date {
	return api.Date{Year: y, Month: api.Code{Num: num, Leap: leap}, Day: day}
}

// pair holds two dates that follow one another against both ways of counting.
func pair(t *testing.T, a, b api.Date) {
	t.Helper()
	if d, e := count.Next(a); d != b || e != api.OK {
		t.Fatalf("Next(%v) = %v, %d; want %v", a, d, e, b)
	}
	if d, e := count.Ahead(b); d != a || e != api.OK {
		t.Fatalf("Ahead(%v) = %v, %d; want %v", b, d, e, a)
	}
}

func TestKnownDates(t *testing.T) {
	pair(t, date(5784, 12, false, 29), date(5785, 1, false, 1))
	pair(t, date(5784, 5, false, 30), date(5784, 5, true, 1))
	pair(t, date(5784, 5, true, 30), date(5784, 6, false, 1))
	pair(t, date(5785, 5, false, 30), date(5785, 6, false, 1))
	pair(t, date(5784, 2, false, 29), date(5784, 3, false, 1))
	pair(t, date(5785, 2, false, 30), date(5785, 3, false, 1))
	pair(t, date(5785, 2, false, 29), date(5785, 2, false, 30))
	pair(t, date(1, 1, false, 1), date(1, 1, false, 2))
	pair(t, date(9999, 12, false, 28), date(9999, 12, false, 29))
}

func TestDatesAreThoseOfTheDays(t *testing.T) {
	for _, y := range []int{1, 2, 3, 5776, 5777, 5778, 5779, 5780, 5781, 5782, 5783, 5784, 5785, 5786, 9997, 9998, 9999} {
		first, _ := newyear.First(y)
		next, _ := newyear.First(y + 1)
		a, _ := heb.FromDay(first)
		for day := first + 1; day <= min(next, closed.Last()); day++ {
			b, _ := heb.FromDay(day)
			pair(t, a, b)
			a = b
		}
	}
	for day := firstDay; day < closed.Last(); day += 997 {
		a, _ := heb.FromDay(day)
		b, _ := heb.FromDay(day + 1)
		pair(t, a, b)
	}
}

func TestNothingIsBeyond(t *testing.T) {
	if d, e := count.Next(date(9999, 12, false, 29)); d != (api.Date{}) || e != api.ErrRange {
		t.Errorf("behind the last one: %v, %d", d, e)
	}
	if d, e := count.Ahead(date(1, 1, false, 1)); d != (api.Date{}) || e != api.ErrRange {
		t.Errorf("ahead of the first one: %v, %d", d, e)
	}
}

func TestWrongDates(t *testing.T) {
	good := date(5784, 1, false, 1)
	wrong := []struct {
		d   api.Date
		err api.Errno
	}{
		{date(0, 1, false, 1), api.ErrRange}, {date(10000, 13, false, 1), api.ErrRange}, {date(math.MaxInt, 1, false, 1), api.ErrRange},
		{date(5785, 5, true, 1), api.ErrMonth}, {date(5784, 0, false, 31), api.ErrMonth}, {date(5784, 2, false, 30), api.ErrDay},
		{date(5784, 1, false, 0), api.ErrDay}, {date(5784, 1, false, math.MinInt), api.ErrDay}, {date(9999, 12, false, 30), api.ErrDay},
	}
	for _, x := range wrong {
		if d, e := count.Next(x.d); d != (api.Date{}) || e != x.err {
			t.Errorf("Next(%v) = %v, %d; want %d", x.d, d, e, x.err)
		}
		if d, e := count.Ahead(x.d); d != (api.Date{}) || e != x.err {
			t.Errorf("Ahead(%v) = %v, %d; want %d", x.d, d, e, x.err)
		}
		for _, n := range []int{0, 1, -1, 3001, math.MinInt} {
			if d, e := count.Steps(x.d, n); d != (api.Date{}) || e != x.err {
				t.Errorf("Steps(%v, %d) = %v, %d; want %d", x.d, n, d, e, x.err)
			}
			if m, e := count.Between(x.d, good, n); m != 0 || e != x.err {
				t.Errorf("Between(%v, good, %d) = %d, %d; want %d", x.d, n, m, e, x.err)
			}
			if m, e := count.Between(good, x.d, n); m != 0 || e != x.err {
				t.Errorf("Between(good, %v, %d) = %d, %d; want %d", x.d, n, m, e, x.err)
			}
		}
		if m, e := count.Between(x.d, date(0, 0, false, 0), 5); m != 0 || e != x.err {
			t.Errorf("Between of two, %v: %d, %d; want %d", x.d, m, e, x.err)
		}
	}
	if m, e := count.Between(date(5785, 5, true, 1), date(0, 1, false, 1), -1); m != 0 || e != api.ErrMonth {
		t.Errorf("the first one's error: %d, %d", m, e)
	}
}

func TestSteps(t *testing.T) {
	last := closed.Last()
	for _, day := range []int{firstDay, firstDay + 2999, firstDay + 3000, 738955, last - 3000, last - 2999, last} {
		d, _ := heb.FromDay(day)
		for _, n := range []int{0, 1, -1, 30, -30, 355, -384, 2999, -2999, 3000, -3000} {
			want, missing := heb.FromDay(day + n)
			if at, e := count.Steps(d, n); at != want || e != missing {
				t.Errorf("Steps(%v, %d) = %v, %d; want %v, %d", d, n, at, e, want, missing)
			}
		}
		for _, n := range []int{3001, -3001, math.MinInt, math.MaxInt} {
			if at, e := count.Steps(d, n); at != (api.Date{}) || e != api.ErrArg {
				t.Errorf("Steps(%v, %d) = %v, %d", d, n, at, e)
			}
		}
	}
}

func TestBetween(t *testing.T) {
	last := closed.Last()
	for _, day := range []int{firstDay, 738955, last - 3001, last - 400} {
		a, _ := heb.FromDay(day)
		for _, n := range []int{0, 1, 2, 29, 30, 354, 400, 2999, 3000, 3001} {
			b, e := heb.FromDay(day + n)
			if e != api.OK {
				continue
			}
			for _, most := range []int{0, 1, n - 1, n, n + 1, 2999, 3000} {
				want, err := n, api.OK
				switch {
				case most < 0 || most > 3000:
					want, err = 0, api.ErrArg
				case n > most:
					want, err = 0, api.ErrRange
				}
				if m, e := count.Between(a, b, most); m != want || e != err {
					t.Errorf("Between(%v, %v, %d) = %d, %d; want %d, %d", a, b, most, m, e, want, err)
				}
			}
		}
	}
}

func TestBetweenOfWhatIsNotThere(t *testing.T) {
	a, b := date(5784, 1, false, 2), date(5784, 1, false, 1)
	tests := []struct {
		a, b api.Date
		most int
		err  api.Errno
	}{
		{a, b, 3000, api.ErrRange}, {a, b, 0, api.ErrRange}, {a, a, -1, api.ErrArg}, {a, b, 3001, api.ErrArg},
		{a, a, math.MinInt, api.ErrArg}, {a, a, math.MaxInt, api.ErrArg},
		{date(9999, 12, false, 29), date(9999, 12, false, 28), 10, api.ErrRange},
	}
	for _, x := range tests {
		if m, e := count.Between(x.a, x.b, x.most); m != 0 || e != x.err {
			t.Errorf("Between(%v, %v, %d) = %d, %d; want %d", x.a, x.b, x.most, m, e, x.err)
		}
	}
}
