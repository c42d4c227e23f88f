package feast_test

import (
	"math"
	"slices"
	"testing"

	"almanacker/api"
	"almanacker/cycle"
	"almanacker/feast"
	"almanacker/heb"
	"almanacker/molad"
)

// on are days of a month: a kind's, in one place.
type on struct {
	kind, num int
	days      []int
}

var abroad = []on{
	{api.RoshHashanah, 1, []int{1, 2}}, {api.YomKippur, 1, []int{10}}, {api.Sukkot, 1, []int{15, 16}},
	{api.SukkotMiddle, 1, []int{17, 18, 19, 20}}, {api.HoshanaRabbah, 1, []int{21}}, {api.SheminiAtzeret, 1, []int{22}},
	{api.SimchatTorah, 1, []int{23}}, {api.TuBiShvat, 5, []int{15}}, {api.Purim, 6, []int{14}}, {api.ShushanPurim, 6, []int{15}},
	{api.Pesach, 7, []int{15, 16, 21, 22}}, {api.PesachMiddle, 7, []int{17, 18, 19, 20}}, {api.PesachSheni, 8, []int{14}},
	{api.LagBaOmer, 8, []int{18}}, {api.Shavuot, 9, []int{6, 7}}, {api.TuBAv, 11, []int{15}},
}

var israel = []on{
	{api.RoshHashanah, 1, []int{1, 2}}, {api.YomKippur, 1, []int{10}}, {api.Sukkot, 1, []int{15}},
	{api.SukkotMiddle, 1, []int{16, 17, 18, 19, 20}}, {api.HoshanaRabbah, 1, []int{21}}, {api.SheminiAtzeret, 1, []int{22}},
	{api.SimchatTorah, 1, []int{22}}, {api.TuBiShvat, 5, []int{15}}, {api.Purim, 6, []int{14}}, {api.ShushanPurim, 6, []int{15}},
	{api.Pesach, 7, []int{15, 21}}, {api.PesachMiddle, 7, []int{16, 17, 18, 19, 20}}, {api.PesachSheni, 8, []int{14}},
	{api.LagBaOmer, 8, []int{18}}, {api.Shavuot, 9, []int{6}}, {api.TuBAv, 11, []int{15}},
}

func day(t *testing.T, y, num int, leap bool, n int) int {
	t.Helper()
	d, e := heb.ToDay(api.Date{Year: y, Month: api.Code{Num: num, Leap: leap}, Day: n})
	if e != api.OK {
		t.Fatalf("year %d, month %d, day %d: error %d", y, num, n, e)
	}
	return d
}

// events are those with these kinds and days.
func events(pairs [][2]int) []api.Event {
	var l []api.Event
	for _, x := range pairs {
		l = append(l, api.Event{Kind: x[0], Day: x[1]})
	}
	return l
}

// all are a year's feasts, in order.
func all(t *testing.T, y int, l []on) []api.Event {
	var events []api.Event
	for _, x := range l {
		for _, n := range x.days {
			events = append(events, api.Event{Kind: x.kind, Day: day(t, y, x.num, false, n)})
		}
	}
	for i := range 8 {
		events = append(events, api.Event{Kind: api.Hanukkah, Day: day(t, y, 3, false, 25) + i})
	}
	if leap, _ := cycle.Leap(y); leap {
		events = append(events, api.Event{Kind: api.PurimKatan, Day: day(t, y, 5, true, 14)})
	}
	slices.SortFunc(events, func(a, b api.Event) int { return 100*(a.Day-b.Day) + a.Kind - b.Kind })
	return events
}

func TestFeastsOfManyYears(t *testing.T) {
	years := []int{1, 2, 3, 9997, 9998, 9999}
	for y := 5760; y < 5800; y++ {
		years = append(years, y)
	}
	for _, y := range years {
		for place, l := range [][]on{abroad, israel} {
			got, e := feast.Of(y, place)
			if want := all(t, y, l); !slices.Equal(got, want) || e != api.OK {
				t.Errorf("Of(%d, %d) = %v, %d; want %v", y, place, got, e, want)
			}
		}
	}
}

func TestKnownFeasts(t *testing.T) {
	l, _ := feast.Of(5784, api.Diaspora)
	var pesach []int
	for _, x := range l {
		if x.Kind == api.Pesach {
			pesach = append(pesach, x.Day)
		}
	}
	if !slices.Equal(pesach, []int{738999, 739000, 739005, 739006}) {
		t.Errorf("Pesach of 5784: %v", pesach)
	}
}

func TestFeastsAreOnWeekdaysThatTheyMayHave(t *testing.T) {
	never := map[int][]int{
		api.RoshHashanah: {api.Sunday, api.Wednesday, api.Friday},
		api.Pesach:       {api.Monday, api.Wednesday, api.Friday},
		api.Purim:        {api.Saturday, api.Monday, api.Wednesday},
	}
	for y := 1; y <= 9999; y += 3 {
		l, _ := feast.Of(y, y%2)
		seen := map[int]bool{}
		for _, x := range l {
			if slices.Contains(never[x.Kind], molad.Weekday(x.Day)) && !seen[x.Kind] {
				t.Errorf("year %d: %v is on weekday %d", y, x, molad.Weekday(x.Day))
			}
			seen[x.Kind] = true
			if d, _ := heb.FromDay(x.Day); d.Year != y {
				t.Errorf("year %d: %v is in year %d", y, x, d.Year)
			}
		}
	}
}

func TestErrors(t *testing.T) {
	tests := []struct {
		y, place int
		err      api.Errno
	}{
		{0, 0, api.ErrRange}, {10000, 1, api.ErrRange}, {math.MinInt, 0, api.ErrRange}, {math.MaxInt, 1, api.ErrRange},
		{5784, 2, api.ErrArg}, {5784, -1, api.ErrArg}, {0, 2, api.ErrArg}, {10000, math.MinInt, api.ErrArg}, {1, math.MaxInt, api.ErrArg},
	}
	for _, x := range tests {
		if l, e := feast.Of(x.y, x.place); len(l) != 0 || e != x.err {
			t.Errorf("Of(%d, %d) = %v, %d; want %d", x.y, x.place, l, e, x.err)
		}
	}
}

func TestRest(t *testing.T) {
	want := map[int]bool{1: true, 3: true, 4: true, 5: true, 6: true, 7: true, 8: true, 17: true, 18: true, 25: true}
	for kind := -40; kind <= 300; kind++ {
		if r := feast.Rest(kind); r != want[kind] {
			t.Errorf("Rest(%d) = %v", kind, r)
		}
	}
	if feast.Rest(math.MinInt) || feast.Rest(math.MaxInt) {
		t.Error("Rest of no kind")
	}
}

func TestSort(t *testing.T) {
	least, most := math.MinInt, math.MaxInt
	l := events([][2]int{{2, 5}, {1, 5}, {most, least}, {9, most}, {2, 5}, {-1, 0}, {least, most}, {3, 4}, {2, -7}, {1, 5}})
	want := events([][2]int{{most, least}, {2, -7}, {-1, 0}, {3, 4}, {1, 5}, {1, 5}, {2, 5}, {2, 5}, {least, most}, {9, most}})
	kept := slices.Clone(l)
	if s := feast.Sort(l); !slices.Equal(s, want) {
		t.Errorf("Sort: %v", s)
	}
	if !slices.Equal(l, kept) {
		t.Errorf("what was handed in was changed: %v", l)
	}
	if s := feast.Sort(want); !slices.Equal(s, want) {
		t.Errorf("Sort of what is in order: %v", s)
	}
	if len(feast.Sort(nil)) != 0 || len(feast.Sort([]api.Event{})) != 0 {
		t.Error("Sort of nothing")
	}
}

func TestSortLeavesSpareRoomAlone(t *testing.T) {
	room := events([][2]int{{1, 2}, {1, 1}, {7, 7}})
	s := feast.Sort(room[:2])
	s = append(s, api.Event{Kind: 5, Day: 5})
	s[0] = api.Event{}
	if !slices.Equal(room, events([][2]int{{1, 2}, {1, 1}, {7, 7}})) {
		t.Errorf("room: %v, %v", room, s)
	}
}

func TestAnswersAreNotKept(t *testing.T) {
	l, _ := feast.Of(5784, api.Israel)
	want := slices.Clone(l)
	for i := range l {
		l[i] = api.Event{}
	}
	if again, _ := feast.Of(5784, api.Israel); !slices.Equal(again, want) {
		t.Errorf("asked again: %v", again)
	}
}

func TestSame(t *testing.T) {
	a := events([][2]int{{1, 2}, {3, 4}})
	tests := []struct {
		b    []api.Event
		want bool
	}{
		{events([][2]int{{1, 2}, {3, 4}}), true}, {events([][2]int{{3, 4}, {1, 2}}), false}, {events([][2]int{{1, 2}}), false},
		{events([][2]int{{1, 2}, {3, 4}, {3, 4}}), false}, {events([][2]int{{1, 2}, {3, 5}}), false}, {events([][2]int{{1, 2}, {4, 4}}), false}, {nil, false},
	}
	for _, x := range tests {
		if s := feast.Same(a, x.b); s != x.want {
			t.Errorf("Same(%v, %v) = %v", a, x.b, s)
		}
		if s := feast.Same(x.b, a); s != x.want {
			t.Errorf("Same(%v, %v) = %v", x.b, a, s)
		}
	}
	if !feast.Same(nil, []api.Event{}) || !feast.Same(nil, nil) {
		t.Error("lists that hold nothing are the same")
	}
}
