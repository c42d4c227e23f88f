package name_test

import (
	"fmt"
	"math"
	"strings"
	"testing"

	"almanacker/api"
	"almanacker/closed"
	"almanacker/cycle"
	"almanacker/heb"
	"almanacker/name"
)

func date(y, num int, leap bool, day int) api.Date {
	return api.Date{Year: y, Month: api.Code{Num: num, Leap: leap}, Day: day}
}

// names are the names of the codes 1 to 12, of a year that isn't a leap year.
var names = strings.Fields("- Tishri Heshvan Kislev Tevet Shevat Adar Nisan Iyar Sivan Tammuz Av Elul")

// want tells the name of a month that there is.
func want(y int, c api.Code) string {
	leap, _ := cycle.Leap(y)
	switch {
	case c.Leap:
		return "Adar I"
	case leap && c.Num == 6:
		return "Adar II"
	}
	return names[c.Num]
}

func TestMonthOfEachCode(t *testing.T) {
	for _, y := range []int{5784, 5785, 1, 3, 9998, 9999} {
		leap, _ := cycle.Leap(y)
		for num := 1; num <= 12; num++ {
			c := api.Code{Num: num}
			if s, e := name.Month(y, c); s != want(y, c) || e != api.OK {
				t.Errorf("Month(%d, %v) = %q, %d; want %q", y, c, s, e, want(y, c))
			}
		}
		s, e := name.Month(y, api.Code{Num: 5, Leap: true})
		if leap && (s != "Adar I" || e != api.OK) || !leap && (s != "" || e != api.ErrMonth) {
			t.Errorf("Month(%d, M05L) = %q, %d", y, s, e)
		}
	}
}

func TestMonthsThatThereAreNot(t *testing.T) {
	tests := []struct {
		y   int
		c   api.Code
		err api.Errno
	}{
		{0, api.Code{Num: 1}, api.ErrRange}, {10000, api.Code{Num: 13}, api.ErrRange}, {math.MinInt, api.Code{}, api.ErrRange},
		{10001, api.Code{Num: 6}, api.ErrRange}, {math.MaxInt, api.Code{Num: 6}, api.ErrRange},
		{5784, api.Code{}, api.ErrMonth}, {5784, api.Code{Num: 13}, api.ErrMonth}, {5784, api.Code{Num: 6, Leap: true}, api.ErrMonth},
		{5784, api.Code{Num: math.MinInt}, api.ErrMonth}, {5785, api.Code{Num: 5, Leap: true}, api.ErrMonth},
	}
	for _, x := range tests {
		if s, e := name.Month(x.y, x.c); s != "" || e != x.err {
			t.Errorf("Month(%d, %v) = %q, %d; want %d", x.y, x.c, s, e, x.err)
		}
	}
}

func TestPrint(t *testing.T) {
	tests := []struct {
		d    api.Date
		want string
		err  api.Errno
	}{
		{date(5784, 5, true, 30), "30 Adar I 5784", api.OK},
		{date(5784, 6, false, 1), "1 Adar II 5784", api.OK},
		{date(5785, 6, false, 29), "29 Adar 5785", api.OK},
		{date(1, 1, false, 1), "1 Tishri 1", api.OK},
		{date(9999, 12, false, 29), "29 Elul 9999", api.OK},
		{date(608, 11, false, 9), "9 Av 608", api.OK},
		{date(0, 1, false, 1), "", api.ErrRange},
		{date(10000, 14, false, 0), "", api.ErrRange},
		{date(5785, 5, true, 31), "", api.ErrMonth},
		{date(5785, 13, false, 1), "", api.ErrMonth},
		{date(5785, 1, false, 31), "", api.ErrDay},
		{date(5785, 1, false, 0), "", api.ErrDay},
		{date(5785, 1, false, math.MinInt), "", api.ErrDay},
	}
	for _, x := range tests {
		if s, e := name.Print(x.d); s != x.want || e != x.err {
			t.Errorf("Print(%v) = %q, %d; want %q, %d", x.d, s, e, x.want, x.err)
		}
	}
}

func TestRead(t *testing.T) {
	good := map[string]api.Date{
		"30 Adar I 5784": date(5784, 5, true, 30), "1 Adar II 5784": date(5784, 6, false, 1), "1 Adar 5784": date(5784, 6, false, 1),
		"29 Adar 5785": date(5785, 6, false, 29), "1 Tishri 1": date(1, 1, false, 1), "29 Elul 9999": date(9999, 12, false, 29),
		"30 Heshvan 5785": date(5785, 2, false, 30), "9 Av 608": date(608, 11, false, 9), "10 Tevet 30": date(30, 4, false, 10),
	}
	for s, want := range good {
		if d, e := name.Read(s); d != want || e != api.OK {
			t.Errorf("Read(%q) = %v, %d; want %v", s, d, e, want)
		}
	}
	none := func(want api.Errno, l ...string) {
		for _, s := range l {
			if d, e := name.Read(s); d != (api.Date{}) || e != want {
				t.Errorf("Read(%q) = %v, %d; want %d", s, d, e, want)
			}
		}
	}
	none(api.ErrRange, "1 Adar I 5785", "1 Adar II 5785", "30 Adar 5784", "30 Adar II 5784", "31 Adar I 5784", "31 Tishri 5784", "30 Heshvan 5784",
		"99 Elul 9999", "30 Elul 1", "30 Adar I 5785", "99 Adar II 5785")
	none(api.ErrSyntax, "", " ", "  ", "   ", "1", "1 ", "1 Tishri", "1 Tishri ", " Tishri 5784", "Tishri 5784", "1 5784", "1  5784", "1 Tishri 0",
		"0 Tishri 5784", "01 Tishri 5784", "1 Tishri 0784", "1 Tishri 05784", "1 Tishri 10000", "100 Tishri 5784", "001 Tishri 5784",
		"1  Tishri 5784", "1 Tishri  5784", " 1 Tishri 5784", "1 Tishri 5784 ", "1 tishri 5784", "1 TISHRI 5784", "1 Tishrei 5784", "1 Tishri5784",
		"1Tishri 5784", "+1 Tishri 5784", "-1 Tishri 5784", "1 Tishri -578", "1 Tishri +578", "1x Tishri 5784", "1 Tishri 578x", "1 Adar  I 5784",
		"1 AdarI 5784", "1 Adar III 5784", "1 Adar 1 5784", "1 Adar i 5784", "1 I 5784", "1 M05L 5784", "1\tTishri\t5784", "1 Tishri\u00a05784",
		"1 Tishri 57:4", "/ Tishri 5784", "1 Tishri\x00 5784", "1 \xff 5784", "１ Tishri 5784", "1 Adar I", "1 Adar II", "1 Adar I I 5784",
		"1 Nisan Nisan 5784", "99999999999999999999 Av 1", "1 Av 99999999999999999999", "5784 Tishri 1", "00 Tishri 5784", "1 Tishri 0000",
		"1 - 5784", strings.Repeat(" ", 1000), "0 Adar I 5785", "1 Adar I 05785")
}

func TestWordsThereAndBack(t *testing.T) {
	for day := -1373427; day <= closed.Last(); day += 59 {
		d, _ := heb.FromDay(day)
		words := fmt.Sprintf("%d %s %d", d.Day, want(d.Year, d.Month), d.Year)
		if s, e := name.Print(d); s != words || e != api.OK {
			t.Fatalf("Print(%v) = %q, %d; want %q", d, s, e, words)
		}
		if r, e := name.Read(words); r != d || e != api.OK {
			t.Fatalf("Read(%q) = %v, %d", words, r, e)
		}
	}
}

func TestAdarOfALeapYearIsTheSecond(t *testing.T) {
	for y := 1; y <= 9999; y += 7 {
		d, e := name.Read(fmt.Sprintf("14 Adar %d", y))
		if d != date(y, 6, false, 14) || e != api.OK {
			t.Fatalf("14 Adar %d: %v, %d", y, d, e)
		}
	}
}
