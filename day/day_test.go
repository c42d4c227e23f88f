package day_test

import (
	"math"
	"slices"
	"testing"

	"almanacker/api"
	"almanacker/chodesh"
	"almanacker/closed"
	"almanacker/day"
	"almanacker/fast"
	"almanacker/feast"
	"almanacker/greg"
	"almanacker/heb"
	"almanacker/molad"
	"almanacker/newyear"
	"almanacker/special"
	"almanacker/torah"
)

// all are all events of a year, in order.
func all(y, place int) []api.Event {
	feasts, _ := feast.Of(y, place)
	fasts, _ := fast.Of(y)
	moons, _ := chodesh.Of(y)
	sabbaths, _ := special.Of(y)
	return feast.Sort(slices.Concat(sabbaths, moons, fasts, feasts))
}

// about is what there is to say of a day of a year with these events.
func about(n, place int, events []api.Event) api.About {
	a := api.About{Day: n, Weekday: molad.Weekday(n)}
	a.Heb, _ = heb.FromDay(n)
	a.Civil, _ = greg.FromDay(n)
	a.Omer, _ = chodesh.Omer(n)
	a.Reading, _ = torah.Of(n, place)
	for _, e := range events {
		if e.Day == n {
			a.Events = append(a.Events, e.Kind)
		}
	}
	return a
}

// same tells whether two are the same, field by field.
func same(a, b api.About) bool {
	return a.Day == b.Day && a.Heb == b.Heb && a.Civil == b.Civil && a.Weekday == b.Weekday && a.Omer == b.Omer &&
		slices.Equal(a.Events, b.Events) && a.Reading == b.Reading
}

func TestEachDayOfSomeYears(t *testing.T) {
	for _, y := range []int{1, 5783, 5784, 9998, 9999} {
		first, _ := newyear.First(y)
		next, _ := newyear.First(y + 1)
		for place := api.Diaspora; place <= api.Israel; place++ {
			events := all(y, place)
			for n := first; n < next; n++ {
				want := about(n, place, events)
				if a, e := day.Of(n, place); !same(a, want) || e != api.OK {
					t.Fatalf("Of(%d, %d) = %v, %d; want %v", n, place, a, e, want)
				}
			}
		}
	}
}

func TestKnownDays(t *testing.T) {
	pesach := api.About{
		Day: 738999, Heb: api.Date{Year: 5784, Month: api.Code{Num: 7}, Day: 15}, Civil: api.Civil{Year: 2024, Month: 4, Day: 23},
		Weekday: api.Tuesday, Events: []int{api.Pesach},
	}
	second := api.About{
		Day: 739000, Heb: api.Date{Year: 5784, Month: api.Code{Num: 7}, Day: 16}, Civil: api.Civil{Year: 2024, Month: 4, Day: 24},
		Weekday: api.Wednesday, Omer: 1, Events: []int{api.PesachMiddle},
	}
	sabbath := api.About{
		Day: 739108, Heb: api.Date{Year: 5784, Month: api.Code{Num: 11}, Day: 6}, Civil: api.Civil{Year: 2024, Month: 8, Day: 10},
		Weekday: api.Saturday, Events: []int{api.Chazon}, Reading: api.Reading{First: 44, Many: 1, Day: 739108},
	}
	both := api.About{
		Day: 739184, Heb: api.Date{Year: 5785, Month: api.Code{Num: 1}, Day: 23}, Civil: api.Civil{Year: 2024, Month: 10, Day: 25},
		Weekday: api.Friday, Events: []int{api.SimchatTorah},
	}
	last := api.About{
		Day: 739183, Heb: api.Date{Year: 5785, Month: api.Code{Num: 1}, Day: 22}, Civil: api.Civil{Year: 2024, Month: 10, Day: 24},
		Weekday: api.Thursday, Events: []int{api.SheminiAtzeret, api.SimchatTorah},
	}
	tests := []struct {
		place int
		want  api.About
	}{
		{api.Diaspora, pesach}, {api.Israel, second}, {api.Diaspora, sabbath}, {api.Israel, sabbath}, {api.Diaspora, both}, {api.Israel, last},
	}
	for _, x := range tests {
		if a, e := day.Of(x.want.Day, x.place); !same(a, x.want) || e != api.OK {
			t.Errorf("Of(%d, %d) = %v, %d; want %v", x.want.Day, x.place, a, e, x.want)
		}
	}
}

func TestEventsOfManyYears(t *testing.T) {
	for y := 1; y <= 9999; y += 17 {
		for place := api.Diaspora; place <= api.Israel; place++ {
			l, e := day.Events(y, place)
			if want := all(y, place); !slices.Equal(l, want) || e != api.OK {
				t.Fatalf("Events(%d, %d) = %v, %d; want %v", y, place, l, e, want)
			}
			for _, x := range l {
				if d, _ := heb.FromDay(x.Day); d.Year != y {
					t.Fatalf("Events(%d, %d) has %v, of year %d", y, place, x, d.Year)
				}
			}
		}
	}
}

func TestErrors(t *testing.T) {
	for _, n := range []int{-1373428, closed.Last() + 1, math.MinInt, math.MaxInt} {
		if a, e := day.Of(n, api.Diaspora); !same(a, api.About{}) || e != api.ErrRange {
			t.Errorf("Of(%d, 0) = %v, %d", n, a, e)
		}
	}
	for _, y := range []int{0, -1, 10000, math.MinInt, math.MaxInt} {
		if l, e := day.Events(y, api.Israel); len(l) != 0 || e != api.ErrRange {
			t.Errorf("Events(%d, 1) = %v, %d", y, l, e)
		}
	}
	for _, place := range []int{-1, 2, math.MinInt, math.MaxInt} {
		for _, n := range []int{738999, 5784, math.MinInt, math.MaxInt} {
			if a, e := day.Of(n, place); !same(a, api.About{}) || e != api.ErrArg {
				t.Errorf("Of(%d, %d) = %v, %d", n, place, a, e)
			}
			if l, e := day.Events(n, place); len(l) != 0 || e != api.ErrArg {
				t.Errorf("Events(%d, %d) = %v, %d", n, place, l, e)
			}
		}
	}
}

func TestSame(t *testing.T) {
	a, _ := day.Of(738996, api.Diaspora)
	if len(a.Events) != 1 || a.Reading.Many == 0 {
		t.Fatalf("the Sabbath ahead of Pesach: %v", a)
	}
	b, _ := day.Of(738996, api.Diaspora)
	if !day.Same(a, b) {
		t.Error("the same day isn't the same")
	}
	changes := []func(*api.About){
		func(x *api.About) { x.Day++ }, func(x *api.About) { x.Heb.Year++ }, func(x *api.About) { x.Heb.Month.Leap = true },
		func(x *api.About) { x.Heb.Day++ }, func(x *api.About) { x.Civil.Year++ }, func(x *api.About) { x.Civil.Day++ },
		func(x *api.About) { x.Weekday++ }, func(x *api.About) { x.Omer++ }, func(x *api.About) { x.Events = nil },
		func(x *api.About) { x.Events = []int{1} }, func(x *api.About) { x.Events = append(slices.Clone(x.Events), 40) },
		func(x *api.About) { x.Reading.First++ }, func(x *api.About) { x.Reading.Many++ }, func(x *api.About) { x.Reading.Day++ },
	}
	for i, change := range changes {
		c := a
		change(&c)
		if day.Same(a, c) || day.Same(c, a) {
			t.Errorf("change %d isn't seen", i)
		}
	}
	if !day.Same(api.About{}, api.About{Events: []int{}}) {
		t.Error("lists that hold nothing are the same")
	}
}

func TestAnswersAreNotKept(t *testing.T) {
	l, _ := day.Events(5784, api.Israel)
	a, _ := day.Of(738996, api.Israel)
	want := slices.Clone(l)
	clear(l)
	a.Events[0] = 99
	if again, _ := day.Events(5784, api.Israel); !slices.Equal(again, want) {
		t.Errorf("asked again: %v", again)
	}
	if again, _ := day.Of(738996, api.Israel); again.Events[0] != api.HaGadol {
		t.Errorf("asked again: %v", again)
	}
}
