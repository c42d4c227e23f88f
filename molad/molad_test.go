package molad_test

import (
	"math"
	"testing"

	"almanacker/api"
	"almanacker/cycle"
	"almanacker/molad"
)

// later tells the moment a moon behind m.
func later(m api.Molad) api.Molad {
	m.Day += 29
	m.Parts += 13753
	if m.Parts >= 25920 {
		m.Day++
		m.Parts -= 25920
	}
	return m
}

func TestWeekdaysGoRound(t *testing.T) {
	for day := -30; day <= 30; day++ {
		if w := molad.Weekday(day); w != (day+35)%7 {
			t.Errorf("Weekday(%d) = %d", day, w)
		}
	}
	known := map[int]int{
		1: api.Monday, 0: api.Sunday, -1: api.Saturday, -1373427: api.Monday, 739162: api.Thursday,
		math.MaxInt: 0, math.MaxInt - 1: 6, math.MinInt: 6, math.MinInt + 1: 0,
	}
	for day, want := range known {
		if w := molad.Weekday(day); w != want {
			t.Errorf("Weekday(%d) = %d; want %d", day, w, want)
		}
	}
}

func TestMoonsFollowOneAnother(t *testing.T) {
	first := api.Molad{Day: -1373427, Parts: 5604}
	if m, e := molad.Moon(0); m != first || e != api.OK {
		t.Fatalf("Moon(0) = %v, %d", m, e)
	}
	m, e := molad.Moon(-200000)
	if e != api.OK || m.Parts < 0 || m.Parts >= 25920 {
		t.Fatalf("Moon(-200000) = %v, %d", m, e)
	}
	for n := -200000; n <= 200000; n++ {
		if got, e := molad.Moon(n); got != m || e != api.OK {
			t.Fatalf("Moon(%d) = %v, %d; want %v", n, got, e, m)
		}
		m = later(m)
	}
}

func TestMoonsThatAreTooFarAway(t *testing.T) {
	for _, n := range []int{-200001, 200001, math.MinInt, math.MaxInt} {
		if m, e := molad.Moon(n); m != (api.Molad{}) || e != api.ErrRange {
			t.Errorf("Moon(%d) = %v, %d", n, m, e)
		}
	}
}

func TestOfGoesMonthByMonth(t *testing.T) {
	n := -13
	for y := 0; y <= 10001; y++ {
		months, _ := cycle.In(y)
		for m := 1; m <= months; m++ {
			want, _ := molad.Moon(n)
			if got, e := molad.Of(y, m); got != want || e != api.OK {
				t.Fatalf("Of(%d, %d) = %v, %d; want %v", y, m, got, e, want)
			}
			n++
		}
	}
}

func TestOfKnownNewMoons(t *testing.T) {
	tests := []struct {
		y, m int
		want api.Molad
	}{
		{1, 1, api.Molad{Day: -1373427, Parts: 5604}},
		{1, 2, api.Molad{Day: -1373398, Parts: 19357}},
		{5785, 1, api.Molad{Day: 739162, Parts: 10111}}, // Thursday, 9 hours, 391 parts
	}
	for _, x := range tests {
		if m, e := molad.Of(x.y, x.m); m != x.want || e != api.OK {
			t.Errorf("Of(%d, %d) = %v, %d; want %v", x.y, x.m, m, e, x.want)
		}
	}
}

func TestOfWhatThereIsNot(t *testing.T) {
	tests := []struct {
		y, m int
		err  api.Errno
	}{
		{-1, 1, api.ErrRange},
		{10002, 1, api.ErrRange},
		{-1, 0, api.ErrRange},
		{10002, 14, api.ErrRange},
		{math.MinInt, 1, api.ErrRange},
		{math.MaxInt, 1, api.ErrRange},
		{5784, 0, api.ErrMonth},
		{5784, 14, api.ErrMonth},
		{5785, 13, api.ErrMonth},
		{5785, -1, api.ErrMonth},
		{5785, math.MinInt, api.ErrMonth},
		{5785, math.MaxInt, api.ErrMonth},
		{0, 14, api.ErrMonth},
		{10001, 14, api.ErrMonth},
	}
	for _, x := range tests {
		if m, e := molad.Of(x.y, x.m); m != (api.Molad{}) || e != x.err {
			t.Errorf("Of(%d, %d) = %v, %d; want %d", x.y, x.m, m, e, x.err)
		}
	}
}
