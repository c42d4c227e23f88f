package text_test

import (
	"fmt"
	"math"
	"strings"
	"testing"

	"almanacker/api"
	"almanacker/closed"
	"almanacker/greg"
	"almanacker/heb"
	"almanacker/text"
)

func date(y, num int, leap bool, day int) api.Date {
	return api.Date{Year: y, Month: api.Code{Num: num, Leap: leap}, Day: day}
}

func TestHeb(t *testing.T) {
	tests := []struct {
		d    api.Date
		want string
		err  api.Errno
	}{
		{date(5784, 5, true, 30), "5784-M05L-30", api.OK},
		{date(5785, 1, false, 1), "5785-M01-01", api.OK},
		{date(1, 12, false, 9), "0001-M12-09", api.OK},
		{date(9999, 10, false, 20), "9999-M10-20", api.OK},
		{date(608, 5, false, 10), "0608-M05-10", api.OK},
		{date(0, 1, false, 1), "", api.ErrRange},
		{date(10000, 13, false, 1), "", api.ErrRange},
		{date(math.MinInt, 1, false, 1), "", api.ErrRange},
		{date(5785, 5, true, 31), "", api.ErrMonth},
		{date(5784, 13, false, 1), "", api.ErrMonth},
		{date(5784, 2, false, 30), "", api.ErrDay},
		{date(5784, 1, false, 0), "", api.ErrDay},
	}
	for _, x := range tests {
		if s, e := text.Heb(x.d); s != x.want || e != x.err {
			t.Errorf("Heb(%v) = %q, %d; want %q, %d", x.d, s, e, x.want, x.err)
		}
	}
}

func TestCivil(t *testing.T) {
	tests := []struct {
		c    api.Civil
		want string
		err  api.Errno
	}{
		{api.Civil{Year: -3760, Month: 9, Day: 7}, "-3760-09-07", api.OK},
		{api.Civil{Year: 2024, Month: 10, Day: 3}, "2024-10-03", api.OK},
		{api.Civil{Year: 0, Month: 2, Day: 29}, "0000-02-29", api.OK},
		{api.Civil{Year: -1, Month: 12, Day: 31}, "-0001-12-31", api.OK},
		{api.Civil{Year: 70, Month: 8, Day: 5}, "0070-08-05", api.OK},
		{api.Civil{Year: -3760, Month: 9, Day: 6}, "", api.ErrRange},
		{api.Civil{Year: 7001, Month: 13, Day: 1}, "", api.ErrRange},
		{api.Civil{Year: math.MinInt, Month: 1, Day: 1}, "", api.ErrRange},
		{api.Civil{Year: 2024, Month: 13, Day: 0}, "", api.ErrMonth},
		{api.Civil{Year: 2023, Month: 2, Day: 29}, "", api.ErrDay},
	}
	for _, x := range tests {
		if s, e := text.Civil(x.c); s != x.want || e != x.err {
			t.Errorf("Civil(%v) = %q, %d; want %q, %d", x.c, s, e, x.want, x.err)
		}
	}
}

func TestReadHeb(t *testing.T) {
	good := map[string]api.Date{
		"5784-M05L-30": date(5784, 5, true, 30), "5784-m05l-30": date(5784, 5, true, 30), "5784-m05L-30": date(5784, 5, true, 30),
		"5784-M05l-30": date(5784, 5, true, 30), "5785-m01-01": date(5785, 1, false, 1), "0001-M01-01": date(1, 1, false, 1),
		"9999-M12-29": date(9999, 12, false, 29),
	}
	for s, want := range good {
		if d, e := text.ReadHeb(s); d != want || e != api.OK {
			t.Errorf("ReadHeb(%q) = %v, %d; want %v", s, d, e, want)
		}
	}
	none := func(want api.Errno, l ...string) {
		for _, s := range l {
			if d, e := text.ReadHeb(s); d != (api.Date{}) || e != want {
				t.Errorf("ReadHeb(%q) = %v, %d; want %d", s, d, e, want)
			}
		}
	}
	none(api.ErrRange, "0000-M01-01", "5785-M05L-01", "5785-m05l-99", "5784-M02-30", "5784-M01-00", "5784-M01-31", "9999-M12-30", "0000-M05L-99")
	none(api.ErrSyntax, "", "-", "--", "---", "5784", "5784-M01", "5784-M01-", "5784-M01-1", "5784-M01-001", "784-M01-01", "05784-M01-01",
		"10000-M01-01", "5784-M00-01", "5784-M13-01", "5784-M06L-01", "5784-M1-01", "5784-01-01", "5784--01", "-M01-01", "-5784-M01-01",
		"-578-M01-01", "+578-M01-01", "5784-M01-+1", "5784-M01--1", "5784-M01-1x", "578x-M01-01", "x784-M01-01", "5784-M01-01 ", " 5784-M01-01",
		"5784-M01-01-", "5784-M01-01-01", "5784-M05LL-01", "5784/M01/01", "5784-M01-0:", "5784-M01-/1", "5784-M01L-01", "5784M01-01",
		"5784-M0101", "5784-M01-01\x00", "5784-N01-01", "5784–M01–01", "５784-M01-01", "578\xff-M01-01", "0000-M13-01", "5784-lM05-01",
		"5784-M-05-01", "5784-M05L30", strings.Repeat("-", 1000), "5784 - M01-01", "5784-M0l-01", "5784-M05L-3", "2024-10-03")
}

func TestReadCivil(t *testing.T) {
	good := map[string]api.Civil{
		"-3760-09-07": {Year: -3760, Month: 9, Day: 7}, "2024-10-03": {Year: 2024, Month: 10, Day: 3}, "0000-01-01": {Year: 0, Month: 1, Day: 1},
		"-0001-12-31": {Year: -1, Month: 12, Day: 31}, "0001-01-01": {Year: 1, Month: 1, Day: 1}, "6239-09-25": {Year: 6239, Month: 9, Day: 25},
	}
	for s, want := range good {
		if c, e := text.ReadCivil(s); c != want || e != api.OK {
			t.Errorf("ReadCivil(%q) = %v, %d; want %v", s, c, e, want)
		}
	}
	none := func(want api.Errno, l ...string) {
		for _, s := range l {
			if c, e := text.ReadCivil(s); c != (api.Civil{}) || e != want {
				t.Errorf("ReadCivil(%q) = %v, %d; want %d", s, c, e, want)
			}
		}
	}
	none(api.ErrRange, "-3760-09-06", "6239-09-26", "9999-12-31", "-9999-01-01", "2024-13-01", "2024-00-01", "2024-02-30", "2023-02-29",
		"2024-01-00", "2024-99-99", "-0001-13-01", "0000-00-00")
	none(api.ErrSyntax, "", "-", "--", "---", "----", "2024", "2024-10", "2024-10-3", "2024-1-03", "24-10-03", "02024-10-03", "-0000-01-01",
		"-0000-13-99", "--2024-10-03", "+2024-10-03", "-024-10-03", "-02024-10-03", "2024-10-03-", "2024-10--3", "2024--10-03", "2024-1x-03",
		"2024-10-0x", "202x-10-03", "2024-:0-03", "2024-10-/3", " 2024-10-03", "2024-10-03 ", "2024/10/03", "20241003", "2024-M10-03",
		"2024-10-03\x00", "2024-10-0\xff", "２024-10-03", "2024-+1-03", "2024-10-003", "-10-03", "- 376-09-07", "2024-10-03-01", "-2024-10",
		"5784-M05L-30", "-")
}

func TestTextsThereAndBack(t *testing.T) {
	for day := -1373427; day <= closed.Last(); day += 61 {
		d, _ := heb.FromDay(day)
		s, e := text.Heb(d)
		leap := ""
		if d.Month.Leap {
			leap = "L"
		}
		if want := fmt.Sprintf("%04d-M%02d%s-%02d", d.Year, d.Month.Num, leap, d.Day); s != want || e != api.OK {
			t.Fatalf("Heb(%v) = %q, %d; want %q", d, s, e, want)
		}
		if r, e := text.ReadHeb(s); r != d || e != api.OK {
			t.Fatalf("ReadHeb(%q) = %v, %d", s, r, e)
		}
		if r, e := text.ReadHeb(strings.ToLower(s)); r != d || e != api.OK {
			t.Fatalf("ReadHeb of small letters, %q: %v, %d", s, r, e)
		}
		c, _ := greg.FromDay(day)
		s, e = text.Civil(c)
		year := fmt.Sprintf("%04d", c.Year)
		if c.Year < 0 {
			year = fmt.Sprintf("-%04d", -c.Year)
		}
		if want := fmt.Sprintf("%s-%02d-%02d", year, c.Month, c.Day); s != want || e != api.OK {
			t.Fatalf("Civil(%v) = %q, %d; want %q", c, s, e, want)
		}
		if r, e := text.ReadCivil(s); r != c || e != api.OK {
			t.Fatalf("ReadCivil(%q) = %v, %d", s, r, e)
		}
	}
}

func TestEveryByteOfATextCounts(t *testing.T) {
	const hebrew, civil = "5784-M05L-12", "-1234-10-12"
	for i := range hebrew {
		for b := range 256 {
			s := hebrew[:i] + string([]byte{byte(b)}) + hebrew[i+1:]
			d, e := text.ReadHeb(s)
			back, _ := text.Heb(d)
			if e == api.OK && !strings.EqualFold(back, s) || e != api.OK && e != api.ErrSyntax && e != api.ErrRange {
				t.Errorf("ReadHeb(%q) = %v, %d", s, d, e)
			}
		}
	}
	for i := range civil {
		for b := range 256 {
			s := civil[:i] + string([]byte{byte(b)}) + civil[i+1:]
			c, e := text.ReadCivil(s)
			back, _ := text.Civil(c)
			if e == api.OK && back != s || e != api.OK && e != api.ErrSyntax && e != api.ErrRange {
				t.Errorf("ReadCivil(%q) = %v, %d", s, c, e)
			}
		}
	}
}
