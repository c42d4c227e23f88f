package desk_test

import (
	"math"
	"slices"
	"testing"

	"almanacker/api"
	"almanacker/closed"
	"almanacker/day"
	"almanacker/desk"
	"almanacker/script"
	"almanacker/torah"
)

func open(t *testing.T, place int) *desk.Desk {
	t.Helper()
	d, e := desk.New(place)
	if d == nil || e != api.OK {
		t.Fatalf("New(%d): %v, %d", place, d, e)
	}
	return d
}

// want holds what a desk counted against what it should have.
func want(t *testing.T, d *desk.Desk, calls, errors, hits int) {
	t.Helper()
	if c, e, h := d.Stats(); c != calls || e != errors || h != hits {
		t.Errorf("Stats() = %d, %d, %d; want %d, %d, %d", c, e, h, calls, errors, hits)
	}
}

func TestNew(t *testing.T) {
	for _, place := range []int{-1, 2, math.MinInt, math.MaxInt} {
		if d, e := desk.New(place); d != nil || e != api.ErrArg {
			t.Errorf("New(%d): %v, %d", place, d, e)
		}
	}
	want(t, open(t, api.Diaspora), 0, 0, 0)
	want(t, open(t, api.Israel), 0, 0, 0)
}

func TestAnswersAreThoseOfTheLayers(t *testing.T) {
	for place := api.Diaspora; place <= api.Israel; place++ {
		d := open(t, place)
		for _, y := range []int{5784, 1, 9998, 9999, 0, 10000, math.MinInt, 5784, 1, 9999, 0} {
			events, wrong := day.Events(y, place)
			if l, e := d.Events(y); !slices.Equal(l, events) || e != wrong {
				t.Errorf("place %d: Events(%d) = %v, %d", place, y, l, e)
			}
			readings, wrong := torah.Cycle(y, place)
			if l, e := d.Readings(y); !slices.Equal(l, readings) || e != wrong {
				t.Errorf("place %d: Readings(%d) = %v, %d", place, y, l, e)
			}
		}
		for _, n := range []int{738999, 739101, 738667, -1373427, closed.Last(), -1373428, math.MaxInt, 738999} {
			about, wrong := day.Of(n, place)
			if a, e := d.About(n); !day.Same(a, about) || e != wrong {
				t.Errorf("place %d: About(%d) = %v, %d", place, n, a, e)
			}
		}
		for _, o := range []api.Op{{Kind: api.OpNewYear, A: 5785}, {Kind: api.OpToDay, Text: "5784-M13-01"}, {Kind: 99}, {Kind: api.OpReading, A: 738667, B: 1}} {
			if a := d.Do(o); a != script.Do(o) {
				t.Errorf("place %d: Do(%v) = %v", place, o, a)
			}
		}
	}
}

func TestStats(t *testing.T) {
	d := open(t, api.Diaspora)
	d.Events(5784)
	want(t, d, 1, 0, 0)
	d.Events(5784)
	want(t, d, 2, 0, 1)
	d.Readings(5784) // of a cycle, not of a year: Events doesn't count for it
	want(t, d, 3, 0, 1)
	d.Readings(5784)
	want(t, d, 4, 0, 2)
	d.Events(5785)
	want(t, d, 5, 0, 2)
	d.Events(0)
	want(t, d, 6, 1, 2)
	d.Events(0)
	want(t, d, 7, 2, 2)
	d.Readings(9999)
	d.Readings(9999)
	want(t, d, 9, 4, 2)
	d.About(738999)
	d.About(738999)
	want(t, d, 11, 4, 2)
	d.About(-1373428)
	want(t, d, 12, 5, 2)
	d.Do(api.Op{Kind: api.OpLength, A: 5784})
	d.Do(api.Op{Kind: api.OpLength, A: 5784})
	want(t, d, 14, 5, 2)
	d.Do(api.Op{Kind: 77})
	want(t, d, 15, 6, 2)
	d.Readings(5783)
	d.Events(5783)
	want(t, d, 17, 6, 2)
	d.Events(5784)
	d.Events(5785)
	d.Events(5783)
	d.Readings(5783)
	want(t, d, 21, 6, 6)
}

func TestAboutAndDoKeepNothingThatIsAHit(t *testing.T) {
	d := open(t, api.Israel)
	d.About(738999)
	d.Do(api.Op{Kind: api.OpReading, A: 739101, B: 1})
	d.Events(5784)
	d.Readings(5784)
	want(t, d, 4, 0, 0)
}

func TestClose(t *testing.T) {
	d := open(t, api.Diaspora)
	d.Events(5784)
	d.Events(5784)
	d.Events(0)
	if !d.Close() {
		t.Error("it was open")
	}
	if d.Close() {
		t.Error("it was closed")
	}
	for _, y := range []int{5784, 0} {
		if l, e := d.Events(y); len(l) != 0 || e != api.ErrDone {
			t.Errorf("Events(%d) = %v, %d", y, l, e)
		}
		if l, e := d.Readings(y); len(l) != 0 || e != api.ErrDone {
			t.Errorf("Readings(%d) = %v, %d", y, l, e)
		}
	}
	if a, e := d.About(738999); !day.Same(a, api.About{}) || e != api.ErrDone {
		t.Errorf("About: %v, %d", a, e)
	}
	for _, o := range []api.Op{{Kind: api.OpLength, A: 5784}, {Kind: 99}} {
		if a := d.Do(o); a != (api.Answer{Err: api.ErrDone}) {
			t.Errorf("Do(%v) = %v", o, a)
		}
	}
	want(t, d, 3, 1, 1)
}

func TestWhoWritesIntoAnAnswerChangesNoOtherOne(t *testing.T) {
	d := open(t, api.Diaspora)
	events, _ := day.Events(5784, api.Diaspora)
	readings, _ := torah.Cycle(5784, api.Diaspora)
	about, _ := day.Of(738999, api.Diaspora)
	for range 4 {
		l, e := d.Events(5784)
		if !slices.Equal(l, events) || e != api.OK {
			t.Errorf("Events: %v, %d", l, e)
		}
		clear(l)
		_ = append(l[:1], l[2:]...)
		r, e := d.Readings(5784)
		if !slices.Equal(r, readings) || e != api.OK {
			t.Errorf("Readings: %v, %d", r, e)
		}
		clear(r[:cap(r)])
		a, e := d.About(738999)
		if !day.Same(a, about) || e != api.OK {
			t.Errorf("About: %v, %d", a, e)
		}
		a.Events[0] = 99
	}
	first, _ := d.Events(5784)
	second, _ := d.Events(5784)
	first[0].Day = 0
	if !slices.Equal(second, events) {
		t.Error("two answers share a list")
	}
}

func TestTwoDesksKnowNothingOfOneAnother(t *testing.T) {
	a, b, c := open(t, api.Diaspora), open(t, api.Diaspora), open(t, api.Israel)
	a.Events(5784)
	a.Readings(5784)
	b.Events(5784)
	b.Readings(5784)
	want(t, a, 2, 0, 0)
	want(t, b, 2, 0, 0)
	want(t, c, 0, 0, 0)
	events, _ := day.Events(5784, api.Israel)
	if l, _ := c.Events(5784); !slices.Equal(l, events) {
		t.Errorf("in Israel: %v", l)
	}
	want(t, c, 1, 0, 0)
	a.Close()
	if l, e := b.Events(5784); len(l) == 0 || e != api.OK {
		t.Errorf("the other one was closed: %v, %d", l, e)
	}
	want(t, b, 3, 0, 1)
}
