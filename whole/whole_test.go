// Package whole holds the program against what the document promises of all its layers together.
package whole

import (
	"math"
	"math/rand"
	"slices"
	"testing"

	"almanacker/add"
	"almanacker/anniv"
	"almanacker/api"
	"almanacker/chodesh"
	"almanacker/closed"
	"almanacker/count"
	"almanacker/cycle"
	"almanacker/day"
	"almanacker/desk"
	"almanacker/fast"
	"almanacker/feast"
	"almanacker/greg"
	"almanacker/heb"
	"almanacker/keviah"
	"almanacker/molad"
	"almanacker/name"
	"almanacker/newyear"
	"almanacker/sabbath"
	"almanacker/script"
	"almanacker/special"
	"almanacker/text"
	"almanacker/torah"
	"almanacker/until"
)

const firstDay = -1373427

// some tells days of all years, the first and the last one among them, always the same.
func some(many int) []int {
	source := rand.New(rand.NewSource(28))
	l := []int{firstDay, closed.Last()}
	for range many {
		l = append(l, firstDay+source.Intn(closed.Last()-firstDay))
	}
	return l
}

func dateOf(t *testing.T, n int) api.Date {
	t.Helper()
	d, e := heb.FromDay(n)
	if e != api.OK {
		t.Fatalf("day %d: error %d", n, e)
	}
	return d
}

func read(t *testing.T, s string) api.Date {
	t.Helper()
	d, e := text.ReadHeb(s)
	if e != api.OK {
		t.Fatalf("%q: error %d", s, e)
	}
	return d
}

// P1.
func TestYears(t *testing.T) {
	lengths, types := map[int]bool{}, map[int]bool{}
	for y := 1; y <= 9999; y++ {
		first, _ := newyear.First(y)
		again, _ := closed.First(y)
		long, _ := keviah.Long(y)
		k, _ := keviah.Of(y)
		switch w := molad.Weekday(first); {
		case w == api.Sunday, w == api.Wednesday, w == api.Friday, w != k.Begins:
			t.Errorf("year %d begins on weekday %d", y, w)
		case first != again:
			t.Errorf("year %d begins on %d, and on %d", y, first, again)
		}
		lengths[long], types[keviah.Number(k)] = true, true
	}
	for _, long := range []int{353, 354, 355, 383, 384, 385} {
		if !lengths[long] {
			t.Errorf("no year has %d days", long)
		}
	}
	if len(lengths) != 6 || len(types) != 14 || types[0] {
		t.Errorf("lengths %v, types %v", lengths, types)
	}
}

// P2.
func TestDaysAndDates(t *testing.T) {
	for _, n := range some(20000) {
		d := dateOf(t, n)
		c, e := greg.FromDay(n)
		back, f := heb.ToDay(d)
		civil, g := greg.ToDay(c)
		if back != n || civil != n || e != api.OK || f != api.OK || g != api.OK {
			t.Fatalf("day %d: %v, %v, back %d, %d", n, d, c, back, civil)
		}
		if n == closed.Last() {
			continue
		}
		next := dateOf(t, n+1)
		after, _ := greg.FromDay(n + 1)
		if !heb.Less(d, next) || !greg.Less(c, after) {
			t.Fatalf("%v, %v; %v, %v aren't in order", d, next, c, after)
		}
		if counted, e := count.Next(d); counted != next || e != api.OK {
			t.Fatalf("behind %v: %v, %d; want %v", d, counted, e, next)
		}
		if counted, e := count.Ahead(next); counted != d || e != api.OK {
			t.Fatalf("ahead of %v: %v, %d; want %v", next, counted, e, d)
		}
	}
}

// P3.
func TestTexts(t *testing.T) {
	source := rand.New(rand.NewSource(29))
	for _, n := range some(3000) {
		d := dateOf(t, n)
		c, _ := greg.FromDay(n)
		s, _ := text.Heb(d)
		civil, _ := text.Civil(c)
		words, _ := name.Print(d)
		a, e := text.ReadHeb(s)
		b, f := text.ReadCivil(civil)
		w, g := name.Read(words)
		if a != d || b != c || w != d || e != api.OK || f != api.OK || g != api.OK {
			t.Fatalf("%q, %q, %q: %v, %v, %v", s, civil, words, a, b, w)
		}
		for _, other := range []string{s, civil, words} {
			changed := []byte(other)
			changed[source.Intn(len(changed))] = "0123456789-ML mlI\x00\xff"[source.Intn(19)]
			anyText(t, string(changed))
		}
	}
}

// anyText holds whatever a text is read as against its own text.
func anyText(t *testing.T, s string) {
	t.Helper()
	d, e := text.ReadHeb(s)
	c, f := text.ReadCivil(s)
	w, g := name.Read(s)
	for _, err := range []api.Errno{e, f, g} {
		if err != api.OK && err != api.ErrSyntax && err != api.ErrRange {
			t.Errorf("%q: error %d", s, err)
		}
	}
	if (e == api.OK) != (heb.Check(d) == api.OK) || (g == api.OK) != (heb.Check(w) == api.OK) {
		t.Errorf("%q: %v, %v", s, d, w)
	}
	if civil, wrong := text.Civil(c); f == api.OK && (civil != s || wrong != api.OK) || f != api.OK && c != (api.Civil{}) {
		t.Errorf("%q: %v", s, c)
	}
}

// P4.
func TestDurations(t *testing.T) {
	days := some(400)
	for i, n := range days {
		a, b := dateOf(t, n), dateOf(t, days[(i+7)%len(days)])
		for unit := api.Days; unit <= api.Years; unit++ {
			s, e := until.Date(a, b, unit)
			if at, wrong := add.To(a, s, api.Constrain); at != b || e != api.OK || wrong != api.OK {
				t.Fatalf("from %v to %v: %v, that leads to %v", a, b, s, at)
			}
			fields := []int{s.Years, s.Months, s.Weeks, s.Days}
			if slices.Max(fields) > 0 && slices.Min(fields) < 0 {
				t.Fatalf("from %v to %v: %v", a, b, s)
			}
		}
	}
}

// P5.
func TestAnniversaries(t *testing.T) {
	for _, n := range some(3000) {
		d := dateOf(t, n)
		for y := d.Year + 1; y <= min(d.Year+5, 9999); y++ {
			birth, e := anniv.Birth(d, y)
			death, f := anniv.Death(d, y)
			if birth.Year != y || death.Year != y || e != api.OK || f != api.OK {
				t.Fatalf("of %v in %d: %v, %v", d, y, birth, death)
			}
			moves := d.Day == 30 || d.Month.Leap || d.Month.Num == 6
			if !moves && (birth.Month != d.Month || birth.Day != d.Day || death != birth) {
				t.Fatalf("of %v in %d: %v, %v", d, y, birth, death)
			}
		}
	}
}

// P6.
func TestFeastsAndFasts(t *testing.T) {
	for y := 1; y <= 9999; y += 97 {
		for place := api.Diaspora; place <= api.Israel; place++ {
			feasts, _ := feast.Of(y, place)
			fasts, _ := fast.Of(y)
			moons, _ := chodesh.Of(y)
			sabbaths, _ := special.Of(y)
			l, e := day.Events(y, place)
			if !feast.Same(l, feast.Sort(slices.Concat(feasts, fasts, moons, sabbaths))) || e != api.OK {
				t.Fatalf("year %d: %v", y, l)
			}
			for _, x := range l {
				about, _ := day.Of(x.Day, place)
				if !slices.Contains(about.Events, x.Kind) || !slices.IsSorted(about.Events) || about.Heb.Year != y {
					t.Fatalf("year %d: %v, of whose day there is to say %v", y, x, about)
				}
			}
		}
	}
}

// P7.
func TestReadings(t *testing.T) {
	for y := 1; y <= 9998; y += 5 {
		for place := api.Diaspora; place <= api.Israel; place++ {
			l, _ := torah.Cycle(y, place)
			free, _ := sabbath.Free(y, place)
			read, sabbaths := 0, 0
			for _, r := range l {
				if r.Many == 0 {
					continue
				}
				if r.First != read+1 || sabbaths >= len(free) || r.Day != free[sabbaths] {
					t.Fatalf("cycle %d, place %d: %v", y, place, r)
				}
				read += r.Many
				sabbaths++
			}
			if read != 53 || sabbaths != len(free) {
				t.Fatalf("cycle %d, place %d: %d portions", y, place, read)
			}
		}
	}
}

// P8.
func TestAnswers(t *testing.T) {
	d, _ := desk.New(api.Diaspora)
	ops := []api.Op{
		{Kind: api.OpNewYear, A: 10000}, {Kind: api.OpLength, A: 0}, {Kind: api.OpToDay, Text: "0000-M01-01"}, {Kind: api.OpFromDay, A: firstDay - 1},
		{Kind: api.OpCivil, Text: "-3760-09-06"}, {Kind: api.OpParse, Text: "30 Elul 9999"}, {Kind: api.OpOmer, A: closed.Last() + 1},
		{Kind: api.OpAdd, Text: "9999-M12-29", Span: api.Span{Days: 1}}, {Kind: api.OpUntil, Text: "9999-M12-29 9999-M12-30"},
		{Kind: api.OpBirth, Text: "9999-M12-29", A: 10000}, {Kind: api.OpDeath, Text: "9999-M12-29", A: math.MaxInt}, {Kind: api.OpReading, A: math.MinInt},
	}
	answers, e := script.Run(ops)
	if e != api.OK || len(answers) != len(ops) {
		t.Fatalf("%v, %d", answers, e)
	}
	for i, o := range ops {
		if a := script.Do(o); a != answers[i] || a != d.Do(o) || a != (api.Answer{Err: api.ErrRange}) {
			t.Errorf("%v: %v, %v", o, a, answers[i])
		}
	}
}

func TestTenExamples(t *testing.T) {
	first, _ := newyear.First(5785)
	civil, _ := greg.FromDay(739162)
	if first != 739162 || molad.Weekday(first) != api.Thursday || civil != (api.Civil{Year: 2024, Month: 10, Day: 3}) {
		t.Errorf("1: %d, %v", first, civil)
	}
	leap, _ := cycle.Leap(5784)
	long, _ := keviah.Long(5784)
	k, _ := keviah.Of(5784)
	if !leap || long != 383 || k.Begins != api.Saturday || keviah.Number(k) != 13 {
		t.Errorf("2: %v, %d, %v", leap, long, k)
	}
	a, b := read(t, "5784-M05L-30"), read(t, "5785-M06-29")
	n, _ := heb.ToDay(a)
	if civil, _ = greg.FromDay(n); civil != (api.Civil{Year: 2024, Month: 3, Day: 10}) {
		t.Errorf("3: %v", civil)
	}
	later, e := add.To(a, api.Span{Years: 1}, api.Constrain)
	if _, f := add.To(a, api.Span{Years: 1}, api.Reject); later != b || e != api.OK || f != api.ErrReject {
		t.Errorf("4: %v, %d, %d", later, e, f)
	}
	years, _ := until.Date(a, b, api.Years)
	days, _ := until.Date(b, a, api.Days)
	if years != (api.Span{Years: 1}) || days != (api.Span{Days: -384}) {
		t.Errorf("5: %v, %v", years, days)
	}
	birth, _ := anniv.Birth(a, 5785)
	death, _ := anniv.Death(a, 5785)
	if birth != read(t, "5785-M07-01") || death != read(t, "5785-M05-30") {
		t.Errorf("6: %v, %v", birth, death)
	}
	fasts, _ := fast.Of(5784)
	thirteenth, _ := heb.ToDay(read(t, "5784-M06-13"))
	if !slices.Contains(fasts, api.Event{Kind: api.FastEsther, Day: thirteenth - 2}) || molad.Weekday(thirteenth-2) != api.Thursday {
		t.Errorf("7: %v", fasts)
	}
	eighteenth, _ := heb.ToDay(read(t, "5784-M08-18"))
	if omer, _ := chodesh.Omer(eighteenth); omer != 33 {
		t.Errorf("8: %d", omer)
	}
	august, _ := greg.ToDay(api.Civil{Year: 2024, Month: 8, Day: 3})
	if answer := script.Do(api.Op{Kind: api.OpReading, A: august}); answer.Text != "Matot-Masei" {
		t.Errorf("9: %v", answer)
	}
	if _, e := heb.FromDay(firstDay - 1); e != api.ErrRange {
		t.Errorf("10: %d", e)
	}
}
