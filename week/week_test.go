package week_test

import (
	"math"
	"testing"

	"almanacker/api"
	"almanacker/molad"
	"almanacker/week"
)

const far = 1 << 40

// near are days at which something may go wrong, and the days about them.
func near() []int {
	var l []int
	for d := -9; d <= 9; d++ {
		l = append(l, d, 739162+d, -1373427+d)
	}
	for d := 0; d <= 14; d++ {
		l = append(l, far-d, -far+d)
	}
	return l
}

func TestFromAndUptoGoDayByDay(t *testing.T) {
	for _, day := range near() {
		for w := 0; w <= 6; w++ {
			from, upto := day, day
			for molad.Weekday(from) != w {
				from++
			}
			for molad.Weekday(upto) != w {
				upto--
			}
			if n := week.From(day, w); n != from {
				t.Errorf("From(%d, %d) = %d; want %d", day, w, n, from)
			}
			if n := week.Upto(day, w); n != upto {
				t.Errorf("Upto(%d, %d) = %d; want %d", day, w, n, upto)
			}
		}
	}
}

func TestExample(t *testing.T) {
	const thursday = 739162
	if n := week.From(thursday, api.Saturday); n != thursday+2 {
		t.Errorf("From: %d", n)
	}
	if n := week.Upto(thursday, api.Saturday); n != thursday-5 {
		t.Errorf("Upto: %d", n)
	}
	if n := week.From(thursday, api.Thursday) + week.Upto(thursday, api.Thursday); n != 2*thursday {
		t.Errorf("a day of the weekday itself: %d", n)
	}
}

func TestCountGoesDayByDay(t *testing.T) {
	for _, start := range []int{-40, 739162, -1373450, far - 60, -far + 3} {
		for from := start; from < start+9; from++ {
			for to := from - 3; to < start+50; to++ {
				for w := 0; w <= 6; w++ {
					want := 0
					for day := from; day <= to; day++ {
						if molad.Weekday(day) == w {
							want++
						}
					}
					if n := week.Count(from, to, w); n != want {
						t.Fatalf("Count(%d, %d, %d) = %d; want %d", from, to, w, n, want)
					}
				}
			}
		}
	}
}

func TestCountFarAway(t *testing.T) {
	tests := []struct{ from, to, w, want int }{
		{-far, far, molad.Weekday(-far), 2*far/7 + 1},
		{far, -far, 3, 0},
		{0, -1, 0, 0},
		{0, -7, 0, 0},
		{0, 0, 0, 1},
		{0, 7, 0, 2},
		{1, 6, 0, 0},
	}
	for _, x := range tests {
		if n := week.Count(x.from, x.to, x.w); n != x.want {
			t.Errorf("Count(%d, %d, %d) = %d; want %d", x.from, x.to, x.w, n, x.want)
		}
	}
}

func TestWhatIsNoWeekday(t *testing.T) {
	for _, w := range []int{-1, 7, 8, 13, -7, math.MinInt, math.MaxInt} {
		for _, day := range near() {
			if n := week.From(day, w); n != day {
				t.Errorf("From(%d, %d) = %d", day, w, n)
			}
			if n := week.Upto(day, w); n != day {
				t.Errorf("Upto(%d, %d) = %d", day, w, n)
			}
			if n := week.Count(day, min(day+30, far), w); n != 0 {
				t.Errorf("Count(%d, %d, %d) = %d", day, min(day+30, far), w, n)
			}
		}
	}
}
