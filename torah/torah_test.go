package torah_test

import (
	"math"
	"slices"
	"strings"
	"testing"

	"almanacker/api"
	"almanacker/closed"
	"almanacker/heb"
	"almanacker/keviah"
	"almanacker/sabbath"
	"almanacker/torah"
)

// joined are the pairs that are together in a cycle, by its year's type, as printed calendars have them: abroad, and in Israel.
var joined = [15][2][]int{
	1:  {{22, 27, 29, 32, 42, 51}, {22, 27, 29, 32, 42, 51}},
	2:  {{22, 27, 29, 32, 39, 42, 51}, {22, 27, 29, 32, 42, 51}},
	3:  {{22, 27, 29, 32, 39, 42, 51}, {22, 27, 29, 32, 42, 51}},
	4:  {{22, 27, 29, 32, 42}, {22, 27, 29, 42}},
	5:  {{27, 29, 32, 42}, {27, 29, 32, 42}},
	6:  {{22, 27, 29, 32, 42}, {22, 27, 29, 32, 42}},
	7:  {{22, 27, 29, 32, 42, 51}, {22, 27, 29, 32, 42, 51}},
	8:  {{39, 42, 51}, {42, 51}},
	9:  {{42}, {}},
	10: {{42}, {}},
	11: {{}, {}},
	12: {{51}, {51}},
	13: {{42, 51}, {42, 51}},
	14: {{39, 42, 51}, {42, 51}},
}

// all are the readings of a cycle by that table.
func all(y, place int) []api.Reading {
	k, _ := keviah.Of(y)
	pairs := joined[keviah.Number(k)][place]
	free, _ := sabbath.Free(y, place)
	days, _ := sabbath.All(y, place)
	n := 1
	var l []api.Reading
	for _, day := range days {
		r := api.Reading{Day: day}
		if slices.Contains(free, day) {
			r.First, r.Many = n, 1
			if slices.Contains(pairs, n) {
				r.Many = 2
			}
			n += r.Many
		}
		l = append(l, r)
	}
	return l
}

func TestCyclesOfAllTypes(t *testing.T) {
	seen := map[int]int{}
	for y := 1; y <= 9998; y += 1 + (y/40)%7 {
		k, _ := keviah.Of(y)
		seen[keviah.Number(k)]++
		for place := api.Diaspora; place <= api.Israel; place++ {
			if l, e := torah.Cycle(y, place); !slices.Equal(l, all(y, place)) || e != api.OK {
				t.Fatalf("Cycle(%d, %d) of type %d = %v, %d; want %v", y, place, keviah.Number(k), l, e, all(y, place))
			}
		}
	}
	if len(seen) != 14 {
		t.Errorf("types seen: %v", seen)
	}
}

func TestEachPortionIsReadOnceAndTheAnchorsHold(t *testing.T) {
	for y := 1; y <= 9998; y += 3 {
		place := y % 2
		l, e := torah.Cycle(y, place)
		if e != api.OK {
			t.Fatalf("Cycle(%d, %d): error %d", y, place, e)
		}
		next := 1
		var ends [6]int
		for _, r := range l {
			if r.Many == 0 {
				continue
			}
			if r.First != next || r.Many == 2 && !torah.Pair(r.First) {
				t.Fatalf("Cycle(%d, %d): %v; want portion %d", y, place, r, next)
			}
			next += r.Many
			part, _ := sabbath.Part(y, r.Day)
			ends[part] = next - 1
		}
		k, _ := keviah.Of(y)
		good := next == 54 && (k.Leap || ends[1] == 25) && (ends[2] == 34 || ends[2] == 35) && ends[3] == 44 && (ends[4] == 51 || ends[4] == 52)
		if !good {
			t.Errorf("Cycle(%d, %d): parts end with %v", y, place, ends)
		}
	}
}

func TestKnownSabbaths(t *testing.T) {
	// Days are told by what printed calendars have of 2022 to 2025.
	tests := []struct{ day, place, first, many int }{
		{738807, 0, 1, 1},  // 14 October 2023, Bereshit
		{738807, 1, 1, 1},  // the same in Israel
		{738597, 0, 22, 2}, // 18 March 2023, Vayakhel-Pekudei
		{738632, 0, 27, 2}, // 22 April 2023, Tazria-Metzora
		{738639, 0, 29, 2}, // 29 April 2023, Acharei Mot-Kedoshim
		{738653, 0, 32, 2}, // 13 May 2023, Behar-Bechukotai
		{738667, 0, 0, 0},  // 27 May 2023, Shavuot
		{738667, 1, 35, 1}, // Naso, in Israel
		{738674, 0, 35, 1}, // 3 June 2023, Naso
		{738695, 1, 39, 1}, // 24 June 2023, Chukat, in Israel
		{738695, 0, 38, 1}, // Korach
		{738702, 0, 39, 2}, // 1 July 2023, Chukat-Balak
		{738702, 1, 40, 1}, // Balak, in Israel
		{738716, 0, 42, 2}, // 15 July 2023, Matot-Masei
		{738772, 1, 51, 2}, // 9 September 2023, Nitzavim-Vayelech
		{738786, 0, 53, 1}, // 23 September 2023, Haazinu
		{738793, 0, 0, 0},  // 30 September 2023, Sukkot
		{738954, 0, 22, 1}, // 9 March 2024, Vayakhel
		{739003, 1, 0, 0},  // 27 April 2024, amid Pesach
		{739087, 0, 40, 1}, // 20 July 2024, Balak
		{739101, 0, 42, 2}, // 3 August 2024, Matot-Masei
		{739108, 0, 44, 1}, // 10 August 2024, Devarim
		{739164, 0, 53, 1}, // 5 October 2024, Haazinu
	}
	for _, x := range tests {
		want := api.Reading{First: x.first, Many: x.many, Day: x.day}
		if r, e := torah.Of(x.day, x.place); r != want || e != api.OK {
			t.Errorf("Of(%d, %d) = %v, %d; want %v", x.day, x.place, r, e, want)
		}
	}
}

func TestOfEachSabbathOfACycle(t *testing.T) {
	for _, y := range []int{1, 5783, 5784, 9998} {
		for place := api.Diaspora; place <= api.Israel; place++ {
			l, _ := torah.Cycle(y, place)
			for _, want := range l {
				if r, e := torah.Of(want.Day, place); r != want || e != api.OK {
					t.Fatalf("Of(%d, %d) = %v, %d; want %v", want.Day, place, r, e, want)
				}
				for d := 1; d < 7; d++ {
					day := want.Day - d
					if n, _ := sabbath.Cycle(day, place); n != y {
						continue
					}
					if r, e := torah.Of(day, place); r != (api.Reading{}) || e != api.ErrDay {
						t.Fatalf("Of(%d, %d) = %v, %d", day, place, r, e)
					}
				}
			}
		}
	}
}

func TestErrors(t *testing.T) {
	for _, y := range []int{0, -1, 9999, 10000, math.MinInt, math.MaxInt} {
		if l, e := torah.Cycle(y, api.Israel); len(l) != 0 || e != api.ErrRange {
			t.Errorf("Cycle(%d, 1) = %v, %d", y, l, e)
		}
	}
	for _, place := range []int{-1, 2, math.MinInt, math.MaxInt} {
		for _, n := range []int{5784, 0, 739101, 739102, math.MaxInt} {
			if l, e := torah.Cycle(n, place); len(l) != 0 || e != api.ErrArg {
				t.Errorf("Cycle(%d, %d) = %v, %d", n, place, l, e)
			}
			if r, e := torah.Of(n, place); r != (api.Reading{}) || e != api.ErrArg {
				t.Errorf("Of(%d, %d) = %v, %d", n, place, r, e)
			}
		}
	}
	end, _ := heb.ToDay(api.Date{Year: 9999, Month: api.Code{Num: 1}, Day: 22})
	for _, day := range []int{-1373428, -1373427, -1373422, end + 2, end + 3, end + 4, end + 5, end + 6, end + 7, end + 8, closed.Last() + 1, math.MinInt, math.MaxInt} {
		if r, e := torah.Of(day, api.Diaspora); r != (api.Reading{}) || e != api.ErrRange {
			t.Errorf("Of(%d, 0) = %v, %d", day, r, e)
		}
	}
}

func TestNames(t *testing.T) {
	const table = "Bereshit, Noach, Lech Lecha, Vayera, Chayei Sarah, Toldot, Vayetzei, Vayishlach, Vayeshev, Miketz, Vayigash, Vayechi, " +
		"Shemot, Vaera, Bo, Beshalach, Yitro, Mishpatim, Terumah, Tetzaveh, Ki Tisa, Vayakhel, Pekudei, " +
		"Vayikra, Tzav, Shemini, Tazria, Metzora, Acharei Mot, Kedoshim, Emor, Behar, Bechukotai, " +
		"Bamidbar, Naso, Behaalotcha, Shelach, Korach, Chukat, Balak, Pinchas, Matot, Masei, " +
		"Devarim, Vaetchanan, Ekev, Reeh, Shoftim, Ki Teitzei, Ki Tavo, Nitzavim, Vayelech, Haazinu, Vezot Haberachah"
	names := strings.Split(table, ", ")
	if len(names) != 54 {
		t.Fatalf("%d names", len(names))
	}
	for i, want := range names {
		if s := torah.Name(i + 1); s != want {
			t.Errorf("Name(%d) = %q; want %q", i+1, s, want)
		}
	}
	for _, n := range []int{0, -1, 55, 56, math.MinInt, math.MaxInt} {
		if s := torah.Name(n); s != "" {
			t.Errorf("Name(%d) = %q", n, s)
		}
	}
}

func TestPair(t *testing.T) {
	pairs := []int{22, 27, 29, 32, 39, 42, 51}
	for n := -5; n <= 300; n++ {
		if p := torah.Pair(n); p != slices.Contains(pairs, n) {
			t.Errorf("Pair(%d) = %v", n, p)
		}
	}
	if torah.Pair(math.MinInt) || torah.Pair(math.MaxInt) {
		t.Error("Pair of no portion")
	}
}
