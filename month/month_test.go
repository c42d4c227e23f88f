package month_test

import (
	"math"
	"testing"

	"almanacker/api"
	"almanacker/keviah"
	"almanacker/month"
)

// lengths tells the days of all months of a type, written out for each kind.
func lengths(k api.Keviah) []int {
	l := [][]int{{30, 29, 29}, {30, 29, 30}, {30, 30, 30}}[k.Kind]
	l = append(l, 29, 30)
	if k.Leap {
		l = append(l, 30)
	}
	return append(l, 29, 30, 29, 30, 29, 30, 29)
}

func TestMonthsOfEachType(t *testing.T) {
	for n := 1; n <= 14; n++ {
		k, _ := keviah.Type(n)
		want := lengths(k)
		if c := month.Count(k); c != len(want) {
			t.Errorf("Count(%v) = %d", k, c)
		}
		ahead := 0
		for i, long := range want {
			if d := month.Days(k, i+1); d != long {
				t.Errorf("Days(%v, %d) = %d; want %d", k, i+1, d, long)
			}
			if a := month.Ahead(k, i+1); a != ahead {
				t.Errorf("Ahead(%v, %d) = %d; want %d", k, i+1, a, ahead)
			}
			ahead += long
		}
		year := 353 + k.Kind
		if k.Leap {
			year += 30
		}
		if ahead != year {
			t.Errorf("%v: %d days together; want %d", k, ahead, year)
		}
		for _, m := range []int{0, -1, len(want) + 1, len(want) + 2, math.MinInt, math.MaxInt} {
			if d, a := month.Days(k, m), month.Ahead(k, m); d != 0 || a != 0 {
				t.Errorf("%v has no month %d: %d, %d", k, m, d, a)
			}
		}
	}
}

func TestFindEachDay(t *testing.T) {
	for number := 1; number <= 14; number++ {
		k, _ := keviah.Type(number)
		n := 0
		for i, long := range lengths(k) {
			for day := 1; day <= long; day++ {
				n++
				if m, d, ok := month.Find(k, n); m != i+1 || d != day || !ok {
					t.Fatalf("Find(%v, %d) = %d, %d, %v; want %d, %d", k, n, m, d, ok, i+1, day)
				}
			}
		}
		for _, beyond := range []int{0, -1, n + 1, n + 30, math.MinInt, math.MaxInt} {
			if m, d, ok := month.Find(k, beyond); m != 0 || d != 0 || ok {
				t.Errorf("Find(%v, %d) = %d, %d, %v", k, beyond, m, d, ok)
			}
		}
	}
}

func TestExample(t *testing.T) {
	regular := api.Keviah{Begins: api.Tuesday, Kind: 1}
	if n := month.Ahead(regular, 6); n != 148 {
		t.Errorf("Ahead of Adar: %d", n)
	}
	if m, d, ok := month.Find(regular, 149); m != 6 || d != 1 || !ok {
		t.Errorf("the 149th day: %d, %d, %v", m, d, ok)
	}
}

func TestTypesThatThereAreNot(t *testing.T) {
	wrong := []api.Keviah{
		{}, {Begins: 0, Kind: 1}, {Begins: 1, Kind: 1}, {Begins: 2, Kind: 0}, {Begins: 3, Kind: 1}, {Begins: 4, Kind: 0},
		{Begins: 6, Kind: 1}, {Begins: 2, Kind: 2, Leap: true}, {Begins: 4, Kind: 1, Leap: true}, {Begins: 8, Kind: 0},
		{Begins: 1, Kind: 3}, {Begins: 1, Kind: -1}, {Begins: math.MinInt, Kind: math.MaxInt, Leap: true},
	}
	for _, k := range wrong {
		if c := month.Count(k); c != 0 {
			t.Errorf("Count(%v) = %d", k, c)
		}
		for m := 0; m <= 14; m++ {
			if d, a := month.Days(k, m), month.Ahead(k, m); d != 0 || a != 0 {
				t.Errorf("Days, Ahead(%v, %d) = %d, %d", k, m, d, a)
			}
		}
		for _, n := range []int{0, 1, 30, 200, 353} {
			if m, d, ok := month.Find(k, n); m != 0 || d != 0 || ok {
				t.Errorf("Find(%v, %d) = %d, %d, %v", k, n, m, d, ok)
			}
		}
	}
}
