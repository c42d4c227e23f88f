package code_test

import (
	"math"
	"testing"

	"almanacker/api"
	"almanacker/code"
)

// texts are all codes' texts, in order.
var texts = []string{"M01", "M02", "M03", "M04", "M05", "M05L", "M06", "M07", "M08", "M09", "M10", "M11", "M12"}

// all are all codes that may be, in order.
var all = []api.Code{
	{Num: 1}, {Num: 2}, {Num: 3}, {Num: 4}, {Num: 5}, {Num: 5, Leap: true}, {Num: 6},
	{Num: 7}, {Num: 8}, {Num: 9}, {Num: 10}, {Num: 11}, {Num: 12},
}

// wrong are codes that may not be.
var wrong = []api.Code{
	{}, {Num: -1}, {Num: 13}, {Num: 14}, {Num: 0, Leap: true}, {Num: 1, Leap: true}, {Num: 4, Leap: true},
	{Num: 6, Leap: true}, {Num: 12, Leap: true}, {Num: 13, Leap: true}, {Num: math.MinInt}, {Num: math.MaxInt, Leap: true},
	{Num: 5 + 256}, {Num: 105}, {Num: -5, Leap: true},
}

func TestRightAndText(t *testing.T) {
	for i, c := range all {
		if !code.Right(c) {
			t.Errorf("Right(%v) = false", c)
		}
		if s, ok := code.Text(c); s != texts[i] || !ok {
			t.Errorf("Text(%v) = %q, %v", c, s, ok)
		}
		if r, ok := code.Read(texts[i]); r != c || !ok {
			t.Errorf("Read(%q) = %v, %v", texts[i], r, ok)
		}
	}
	for _, c := range wrong {
		if code.Right(c) {
			t.Errorf("Right(%v) = true", c)
		}
		if s, ok := code.Text(c); s != "" || ok {
			t.Errorf("Text(%v) = %q, %v", c, s, ok)
		}
	}
}

func TestLessOfAnyTwo(t *testing.T) {
	order := []api.Code{
		{Num: math.MinInt}, {Num: math.MinInt, Leap: true}, {Num: -1}, {Num: -1, Leap: true}, {Num: 0}, {Num: 0, Leap: true},
		{Num: 1}, {Num: 1, Leap: true}, {Num: 4}, {Num: 5}, {Num: 5, Leap: true}, {Num: 6}, {Num: 6, Leap: true}, {Num: 12},
		{Num: 13}, {Num: math.MaxInt}, {Num: math.MaxInt, Leap: true},
	}
	for i, a := range order {
		for j, b := range order {
			if less := code.Less(a, b); less != (i < j) {
				t.Errorf("Less(%v, %v) = %v", a, b, less)
			}
		}
	}
}

func TestReadOfTextsThatAreNone(t *testing.T) {
	for _, s := range []string{
		"", "M", "M1", "M5", "M00", "M13", "M99", "M00L", "M01L", "M04L", "M06L", "M12L", "M13L", "m05", "M05l", "m05L",
		"M05LL", "M05L ", " M05", "M05 ", "M005", "M5L", "05", "05L", "L05", "N05", "M0", "M0L", "M0:", "M/5", "M0\x00",
		"M+5", "M-5", "M 5", "M05X", "M050", "M05\x00", "M\xff5", "M０５", "Tishri", "M1x", "Mx1", "M1:", "M:2", "MM05",
	} {
		if c, ok := code.Read(s); c != (api.Code{}) || ok {
			t.Errorf("Read(%q) = %v, %v", s, c, ok)
		}
	}
}

func TestReadOfAllShortTexts(t *testing.T) {
	known := map[string]bool{}
	for _, s := range texts {
		known[s] = true
	}
	for a := range 256 {
		for b := range 256 {
			for _, s := range []string{string([]byte{'M', byte(a), byte(b)}), string([]byte{'M', byte(a), byte(b), 'L'}), string([]byte{byte(a), '0', '5', byte(b)})} {
				if _, ok := code.Read(s); ok != known[s] {
					t.Fatalf("Read(%q): %v", s, ok)
				}
			}
		}
	}
}

func TestMonthsOfAYear(t *testing.T) {
	m := 0
	for i, c := range all {
		if n, ok := code.Place(true, c); n != i+1 || !ok {
			t.Errorf("Place(true, %v) = %d, %v", c, n, ok)
		}
		if r, ok := code.Of(true, i+1); r != c || !ok {
			t.Errorf("Of(true, %d) = %v, %v", i+1, r, ok)
		}
		if c.Leap {
			if n, ok := code.Place(false, c); n != 0 || ok {
				t.Errorf("Place(false, %v) = %d, %v", c, n, ok)
			}
			continue
		}
		m++
		if n, ok := code.Place(false, c); n != m || !ok {
			t.Errorf("Place(false, %v) = %d, %v", c, n, ok)
		}
		if r, ok := code.Of(false, m); r != c || !ok {
			t.Errorf("Of(false, %d) = %v, %v", m, r, ok)
		}
	}
}

func TestMonthsThatThereAreNot(t *testing.T) {
	for _, m := range []int{0, -1, 14, 15, math.MinInt, math.MaxInt} {
		if c, ok := code.Of(true, m); c != (api.Code{}) || ok {
			t.Errorf("Of(true, %d) = %v, %v", m, c, ok)
		}
	}
	for _, m := range []int{0, -1, 13, 14, math.MinInt, math.MaxInt} {
		if c, ok := code.Of(false, m); c != (api.Code{}) || ok {
			t.Errorf("Of(false, %d) = %v, %v", m, c, ok)
		}
	}
	for _, c := range wrong {
		for _, leap := range []bool{false, true} {
			if n, ok := code.Place(leap, c); n != 0 || ok {
				t.Errorf("Place(%v, %v) = %d, %v", leap, c, n, ok)
			}
		}
	}
}
