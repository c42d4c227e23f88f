package halak_test

import (
	"math"
	"math/big"
	"testing"

	"almanacker/api"
	"almanacker/halak"
)

// whole tells the number that days, hours and parts are, without end.
func whole(days, hours, parts int) *big.Int {
	n := new(big.Int).Mul(big.NewInt(int64(days)), big.NewInt(25920))
	n.Add(n, new(big.Int).Mul(big.NewInt(int64(hours)), big.NewInt(1080)))
	return n.Add(n, big.NewInt(int64(parts)))
}

func TestParts(t *testing.T) {
	const mostDays = math.MaxInt / 25920
	const mostHours = math.MaxInt / 1080
	tests := []struct {
		days, hours, parts int
		want               int
		err                api.Errno
	}{
		{0, 0, 0, 0, api.OK},
		{29, 12, 793, 765433, api.OK},
		{1, 0, 0, 25920, api.OK},
		{0, 1, 0, 1080, api.OK},
		{0, 0, 1, 1, api.OK},
		{-1, -1, -1, -27001, api.OK},
		{-1, 24, 5, 5, api.OK},
		{0, 30, 2000, 34400, api.OK},
		{mostDays, 0, 0, mostDays * 25920, api.OK},
		{-mostDays, 0, 0, -mostDays * 25920, api.OK},
		{mostDays + 1, 0, 0, 0, api.ErrOver},
		{mostDays + 1, -24, 0, 0, api.ErrOver},
		{-mostDays - 1, 24, 25920, 0, api.ErrOver},
		{0, mostHours, 0, mostHours * 1080, api.OK},
		{0, mostHours + 1, 0, 0, api.ErrOver},
		{-24, mostHours + 1, -25920, 0, api.ErrOver},
		{0, -mostHours - 1, 1080, 0, api.ErrOver},
		{mostDays, mostHours, math.MinInt, 0, api.ErrOver},
		{-mostDays, -mostHours, math.MaxInt, 0, api.ErrOver},
		{0, 0, math.MaxInt, math.MaxInt, api.OK},
		{0, 0, math.MinInt, math.MinInt, api.OK},
		{0, 1, math.MaxInt - 1080, math.MaxInt, api.OK},
		{0, 1, math.MaxInt - 1079, 0, api.ErrOver},
		{-1, 0, math.MinInt + 25920, math.MinInt, api.OK},
		{-1, 0, math.MinInt + 25919, 0, api.ErrOver},
	}
	for _, x := range tests {
		n, e := halak.Parts(x.days, x.hours, x.parts)
		if n != x.want || e != x.err {
			t.Errorf("Parts(%d, %d, %d) = %d, %d; want %d, %d", x.days, x.hours, x.parts, n, e, x.want, x.err)
		}
	}
}

func TestSplit(t *testing.T) {
	tests := []struct {
		n    int
		want api.Molad
	}{
		{0, api.Molad{}},
		{25919, api.Molad{Day: 0, Parts: 25919}},
		{25920, api.Molad{Day: 1, Parts: 0}},
		{-1, api.Molad{Day: -1, Parts: 25919}},
		{-25920, api.Molad{Day: -1, Parts: 0}},
		{-25921, api.Molad{Day: -2, Parts: 25919}},
		{765433, api.Molad{Day: 29, Parts: 13753}},
	}
	for _, x := range tests {
		if m := halak.Split(x.n); m != x.want {
			t.Errorf("Split(%d) = %v; want %v", x.n, m, x.want)
		}
	}
}

func TestThereAndBack(t *testing.T) {
	for _, middle := range []int{0, -5000000, 5000000, math.MinInt + 60000, math.MaxInt - 60000} {
		for d := -60000; d <= 59999; d += 7 {
			back(t, middle+d)
		}
	}
	for d := range 60000 {
		back(t, math.MinInt+d)
		back(t, math.MaxInt-d)
	}
}

func back(t *testing.T, n int) {
	m := halak.Split(n)
	if m.Parts < 0 || m.Parts > 25919 || whole(m.Day, 0, m.Parts).Cmp(big.NewInt(int64(n))) != 0 {
		t.Fatalf("Split(%d) = %v", n, m)
	}
	if r, e := halak.Join(m); r != n || e != api.OK {
		t.Fatalf("Join(%v) = %d, %d; want %d", m, r, e, n)
	}
}

func TestJoin(t *testing.T) {
	least, greatest := halak.Split(math.MinInt), halak.Split(math.MaxInt)
	tests := []struct {
		m    api.Molad
		want int
		err  api.Errno
	}{
		{api.Molad{}, 0, api.OK},
		{api.Molad{Day: 2, Parts: 3}, 51843, api.OK},
		{api.Molad{Day: -2, Parts: 3}, -51837, api.OK},
		{api.Molad{Day: 0, Parts: -1}, 0, api.ErrArg},
		{api.Molad{Day: 0, Parts: 25920}, 0, api.ErrArg},
		{api.Molad{Day: math.MaxInt, Parts: 25920}, 0, api.ErrArg},
		{api.Molad{Day: math.MinInt, Parts: math.MinInt}, 0, api.ErrArg},
		{api.Molad{Day: math.MinInt, Parts: 0}, 0, api.ErrOver},
		{api.Molad{Day: math.MaxInt, Parts: 25919}, 0, api.ErrOver},
		{least, math.MinInt, api.OK},
		{api.Molad{Day: least.Day, Parts: least.Parts - 1}, 0, api.ErrOver},
		{api.Molad{Day: least.Day - 1, Parts: 25919}, 0, api.ErrOver},
		{greatest, math.MaxInt, api.OK},
		{api.Molad{Day: greatest.Day, Parts: greatest.Parts + 1}, 0, api.ErrOver},
		{api.Molad{Day: greatest.Day + 1, Parts: 0}, 0, api.ErrOver},
	}
	for _, x := range tests {
		if n, e := halak.Join(x.m); n != x.want || e != x.err {
			t.Errorf("Join(%v) = %d, %d; want %d, %d", x.m, n, e, x.want, x.err)
		}
	}
}

func TestHours(t *testing.T) {
	for parts := -3; parts < 25930; parts++ {
		hours, left := 0, 0
		if parts >= 0 && parts < 25920 {
			hours, left = parts/1080, parts%1080
		}
		if h, l := halak.Hours(parts); h != hours || l != left {
			t.Fatalf("Hours(%d) = %d, %d", parts, h, l)
		}
	}
	for _, parts := range []int{math.MinInt, math.MaxInt, -1080, 30000} {
		if h, l := halak.Hours(parts); h != 0 || l != 0 {
			t.Errorf("Hours(%d) = %d, %d", parts, h, l)
		}
	}
}

func TestMoons(t *testing.T) {
	const most = math.MaxInt / 765433
	for _, n := range []int{0, 1, -1, 235, 200000, -200000, most, -most} {
		if p, e := halak.Moons(n); p != n*765433 || e != api.OK {
			t.Errorf("Moons(%d) = %d, %d", n, p, e)
		}
	}
	for _, n := range []int{most + 1, -most - 1, math.MaxInt, math.MinInt} {
		if p, e := halak.Moons(n); p != 0 || e != api.ErrOver {
			t.Errorf("Moons(%d) = %d, %d", n, p, e)
		}
	}
}
