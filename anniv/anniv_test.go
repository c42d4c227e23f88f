package anniv_test

import (
	"math"
	"testing"

	"almanacker/anniv"
	"almanacker/api"
	"almanacker/cycle"
	"almanacker/heb"
	"almanacker/keviah"
)

func date(y, num int, leap bool, day int) api.Date {
	return api.Date{Year: y, Month: api.Code{Num: num, Leap: leap}, Day: day}
}

func TestKnownAnniversaries(t *testing.T) {
	// Heshvan and Kislev have 30 days in 5783 and 5785, 29 in 5784; in 5786 Heshvan has 29, Kislev 30; 5784 and 5787 are leap years.
	tests := []struct {
		d            api.Date
		y            int
		birth, death api.Date
	}{
		{date(5784, 5, true, 30), 5785, date(5785, 7, false, 1), date(5785, 5, false, 30)},
		{date(5784, 5, true, 30), 5787, date(5787, 5, true, 30), date(5787, 5, true, 30)},
		{date(5784, 5, true, 29), 5785, date(5785, 6, false, 29), date(5785, 6, false, 29)},
		{date(5784, 5, true, 1), 5787, date(5787, 5, true, 1), date(5787, 5, true, 1)},
		{date(5784, 6, false, 14), 5785, date(5785, 6, false, 14), date(5785, 6, false, 14)},
		{date(5784, 6, false, 14), 5787, date(5787, 6, false, 14), date(5787, 6, false, 14)},
		{date(5785, 6, false, 14), 5787, date(5787, 6, false, 14), date(5787, 5, true, 14)},
		{date(5785, 6, false, 29), 5786, date(5786, 6, false, 29), date(5786, 6, false, 29)},
		{date(5785, 6, false, 29), 5787, date(5787, 6, false, 29), date(5787, 5, true, 29)},
		{date(5784, 5, false, 30), 5785, date(5785, 5, false, 30), date(5785, 5, false, 30)},
		// Heshvan has 29 days in the year behind 5785: its last day.
		{date(5785, 2, false, 30), 5786, date(5786, 3, false, 1), date(5786, 2, false, 29)},
		// Heshvan has 30 days in the year behind 5779: counted on, where it has 29.
		{date(5779, 2, false, 30), 5781, date(5781, 3, false, 1), date(5781, 3, false, 1)},
		// Kislev has 30 days in the year behind 5785, and in that behind 5782.
		{date(5785, 3, false, 30), 5786, date(5786, 3, false, 30), date(5786, 3, false, 30)},
		{date(5782, 3, false, 30), 5783, date(5783, 3, false, 30), date(5783, 3, false, 30)},
		{date(5782, 3, false, 30), 5784, date(5784, 4, false, 1), date(5784, 4, false, 1)},
		// Kislev has 29 days in the year behind 5783.
		{date(5783, 3, false, 30), 5784, date(5784, 4, false, 1), date(5784, 3, false, 29)},
		{date(5783, 3, false, 30), 5785, date(5785, 3, false, 30), date(5785, 3, false, 30)},
		// Heshvan has 29 days in the year behind 5783, too, and 30 in 5785.
		{date(5783, 2, false, 30), 5784, date(5784, 3, false, 1), date(5784, 2, false, 29)},
		{date(5783, 2, false, 30), 5785, date(5785, 2, false, 30), date(5785, 2, false, 30)},
		{date(1, 1, false, 1), 9999, date(9999, 1, false, 1), date(9999, 1, false, 1)},
		{date(9998, 12, false, 29), 9999, date(9999, 12, false, 29), date(9999, 12, false, 29)},
	}
	for _, x := range tests {
		if r, e := anniv.Birth(x.d, x.y); r != x.birth || e != api.OK {
			t.Errorf("Birth(%v, %d) = %v, %d; want %v", x.d, x.y, r, e, x.birth)
		}
		if r, e := anniv.Death(x.d, x.y); r != x.death || e != api.OK {
			t.Errorf("Death(%v, %d) = %v, %d; want %v", x.d, x.y, r, e, x.death)
		}
	}
}

func TestErrors(t *testing.T) {
	good := date(5784, 1, false, 1)
	tests := []struct {
		d   api.Date
		y   int
		err api.Errno
	}{
		{good, 5784, api.ErrArg},
		{good, 5783, api.ErrArg},
		{good, 1, api.ErrArg},
		{good, 0, api.ErrRange},
		{good, 10000, api.ErrRange},
		{good, math.MinInt, api.ErrRange},
		{good, math.MaxInt, api.ErrRange},
		{date(9999, 1, false, 1), 9999, api.ErrArg},
		{date(5785, 2, false, 30), 10000, api.ErrRange},
		{date(5783, 3, false, 30), 10001, api.ErrRange},
		{date(5783, 3, false, 30), 0, api.ErrRange},
		{date(5783, 3, false, 30), 5783, api.ErrArg},
		{date(5784, 5, true, 30), 10000, api.ErrRange},
		{date(5784, 5, true, 30), 5783, api.ErrArg},
		{date(5785, 6, false, 14), 10000, api.ErrRange},
		{date(5785, 6, false, 14), 5784, api.ErrArg},
		{date(0, 1, false, 1), 5784, api.ErrRange},
		{date(10000, 13, false, 1), 10001, api.ErrRange},
		{date(5785, 5, true, 1), 0, api.ErrMonth},
		{date(5785, 5, true, 1), 5784, api.ErrMonth},
		{date(5784, 2, false, 30), 5784, api.ErrDay},
		{date(5784, 2, false, 30), 10000, api.ErrDay},
		{date(math.MaxInt, 1, false, 1), math.MinInt, api.ErrRange},
	}
	for _, x := range tests {
		if r, e := anniv.Birth(x.d, x.y); r != (api.Date{}) || e != x.err {
			t.Errorf("Birth(%v, %d) = %v, %d; want %d", x.d, x.y, r, e, x.err)
		}
		if r, e := anniv.Death(x.d, x.y); r != (api.Date{}) || e != x.err {
			t.Errorf("Death(%v, %d) = %v, %d; want %d", x.d, x.y, r, e, x.err)
		}
	}
}

// long tells whether the month with the code num, 2 or 3, has 30 days in year y.
func long(y, num int) bool {
	k, _ := keviah.Of(y)
	return num == 2 && k.Kind == 2 || num == 3 && k.Kind != 0
}

// birth tells a birthday by what the next month is called.
func birth(d api.Date, y int) api.Date {
	leap, _ := cycle.Leap(y)
	at := date(y, d.Month.Num, d.Month.Leap, d.Day)
	if d.Month.Leap && !leap {
		at.Month = api.Code{Num: 6}
	}
	short := (d.Month.Num == 2 || d.Month.Num == 3) && !long(y, d.Month.Num) || at.Month.Num == 6
	if d.Day == 30 && short {
		return date(y, at.Month.Num+1, false, 1)
	}
	return at
}

// death tells a day of remembrance by the four rules.
func death(d api.Date, y int) api.Date {
	leap, _ := cycle.Leap(y)
	was, _ := cycle.Leap(d.Year)
	num := d.Month.Num
	if d.Day == 30 && (num == 2 || num == 3) && !long(d.Year+1, num) {
		if long(y, num) {
			return date(y, num, false, 30)
		}
		return date(y, num, false, 29)
	}
	if d.Day == 30 && d.Month.Leap && !leap {
		return date(y, 5, false, 30)
	}
	if num == 6 && leap && !was {
		return date(y, 5, true, d.Day)
	}
	return birth(d, y)
}

func TestAnniversariesOfEachDayOfManyYears(t *testing.T) {
	for _, from := range []int{1, 5774, 9960} {
		begin, _ := heb.ToDay(date(from, 1, false, 1))
		end, _ := heb.ToDay(date(from+20, 1, false, 1))
		for day := begin; day < end; day++ {
			d, _ := heb.FromDay(day)
			for _, y := range []int{d.Year + 1, d.Year + 2, d.Year + 3, d.Year + 4, d.Year + 19} {
				if r, e := anniv.Birth(d, y); r != birth(d, y) || e != api.OK {
					t.Fatalf("Birth(%v, %d) = %v, %d; want %v", d, y, r, e, birth(d, y))
				}
				if r, e := anniv.Death(d, y); r != death(d, y) || e != api.OK {
					t.Fatalf("Death(%v, %d) = %v, %d; want %v", d, y, r, e, death(d, y))
				}
			}
		}
	}
}
