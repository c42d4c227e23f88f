package script_test

import (
	"math"
	"slices"
	"strings"
	"testing"

	"almanacker/api"
	"almanacker/closed"
	"almanacker/heb"
	"almanacker/newyear"
	"almanacker/script"
	"almanacker/text"
	"almanacker/torah"
)

func date(y, num int, leap bool, day int) api.Date {
	return api.Date{Year: y, Month: api.Code{Num: num, Leap: leap}, Day: day}
}

func failed(e api.Errno) api.Answer {
	return api.Answer{Err: e}
}

// test is an operation, and what is answered.
type test struct {
	o    api.Op
	want api.Answer
}

var years = []test{
	{api.Op{Kind: 1, A: 5785}, api.Answer{N: 739162}},
	{api.Op{Kind: 1, A: 1}, api.Answer{N: -1373427}},
	{api.Op{Kind: 1, A: 9999}, api.Answer{N: 2278298}},
	{api.Op{Kind: 1, A: 0}, failed(api.ErrRange)},
	{api.Op{Kind: 1, A: 10000}, failed(api.ErrRange)},
	{api.Op{Kind: 1, A: 10001}, failed(api.ErrRange)},
	{api.Op{Kind: 1, A: math.MinInt}, failed(api.ErrRange)},
	{api.Op{Kind: 2, A: 5784}, api.Answer{N: 383}},
	{api.Op{Kind: 2, A: 5785}, api.Answer{N: 355}},
	{api.Op{Kind: 2, A: 0}, failed(api.ErrRange)},
	{api.Op{Kind: 2, A: 10000}, failed(api.ErrRange)},
	{api.Op{Kind: 2, A: math.MaxInt}, failed(api.ErrRange)},
}

var dates = []test{
	{api.Op{Kind: 3, Text: "5785-M01-01"}, api.Answer{N: 739162, Date: date(5785, 1, false, 1)}},
	{api.Op{Kind: 3, Text: "5784-m05l-30"}, api.Answer{N: 738955, Date: date(5784, 5, true, 30)}},
	{api.Op{Kind: 3, Text: "5785-M05L-30"}, failed(api.ErrRange)},
	{api.Op{Kind: 3, Text: "5785-M05L"}, failed(api.ErrSyntax)},
	{api.Op{Kind: 3}, failed(api.ErrSyntax)},
	{api.Op{Kind: 4, A: 738955}, api.Answer{Date: date(5784, 5, true, 30), Text: "5784-M05L-30"}},
	{api.Op{Kind: 4, A: -1373427}, api.Answer{Date: date(1, 1, false, 1), Text: "0001-M01-01"}},
	{api.Op{Kind: 4, A: -1373428}, failed(api.ErrRange)},
	{api.Op{Kind: 4, A: math.MaxInt}, failed(api.ErrRange)},
	{api.Op{Kind: 5, Text: "2024-10-03"}, api.Answer{N: 739162, Date: date(5785, 1, false, 1), Civil: api.Civil{Year: 2024, Month: 10, Day: 3}}},
	{api.Op{Kind: 5, Text: "-3760-09-07"}, api.Answer{N: -1373427, Date: date(1, 1, false, 1), Civil: api.Civil{Year: -3760, Month: 9, Day: 7}}},
	{api.Op{Kind: 5, Text: "-3760-09-06"}, failed(api.ErrRange)},
	{api.Op{Kind: 5, Text: "2024-13-03"}, failed(api.ErrRange)},
	{api.Op{Kind: 5, Text: "-0000-10-03"}, failed(api.ErrSyntax)},
	{api.Op{Kind: 6, Text: "30 Adar I 5784"}, api.Answer{Date: date(5784, 5, true, 30), Text: "30 Adar I 5784"}},
	{api.Op{Kind: 6, Text: "1 Adar 5784"}, api.Answer{Date: date(5784, 6, false, 1), Text: "1 Adar II 5784"}},
	{api.Op{Kind: 6, Text: "1 Adar 5785"}, api.Answer{Date: date(5785, 6, false, 1), Text: "1 Adar 5785"}},
	{api.Op{Kind: 6, Text: "1 Adar I 5785"}, failed(api.ErrRange)},
	{api.Op{Kind: 6, Text: "01 Adar 5785"}, failed(api.ErrSyntax)},
}

var durations = []test{
	{api.Op{Kind: 7, Text: "5784-M05L-30", Span: api.Span{Years: 1}}, api.Answer{Date: date(5785, 6, false, 29), Text: "5785-M06-29"}},
	{api.Op{Kind: 7, Text: "5784-M05L-30", Span: api.Span{Years: 1}, A: 1}, failed(api.ErrReject)},
	{api.Op{Kind: 7, Text: "5784-M05L-30", Span: api.Span{Years: 1}, A: 2}, failed(api.ErrArg)},
	{api.Op{Kind: 7, Text: "5784-M05L-30", Span: api.Span{Weeks: api.MaxSpan + 1}}, failed(api.ErrArg)},
	{api.Op{Kind: 7, Text: "5784-M05L-30", Span: api.Span{Days: api.MaxSpan}}, failed(api.ErrRange)},
	{api.Op{Kind: 7, Text: "5785-M05L-30", A: 2}, failed(api.ErrRange)},
	{api.Op{Kind: 7, Text: "5785-M05L 30", A: 2}, failed(api.ErrSyntax)},
	{api.Op{Kind: 8, Text: "5784-M05L-30 5785-M06-29", A: 3}, api.Answer{Span: api.Span{Years: 1}}},
	{api.Op{Kind: 8, Text: "5784-M05L-30 5785-m06-29"}, api.Answer{Span: api.Span{Days: 384}}},
	{api.Op{Kind: 8, Text: "5785-M06-29 5784-M05L-30", A: 1}, api.Answer{Span: api.Span{Weeks: -54, Days: -6}}},
	{api.Op{Kind: 8, Text: "5784-M05L-30 5785-M06-29", A: 2}, api.Answer{Span: api.Span{Months: 13}}},
	{api.Op{Kind: 8, Text: "5784-M05L-30 5785-M06-29", A: 4}, failed(api.ErrArg)},
	{api.Op{Kind: 8, Text: "5784-M05L-305785-M06-29", A: 4}, failed(api.ErrSyntax)},
	{api.Op{Kind: 8, Text: "5784-M05L-30  5785-M06-29"}, failed(api.ErrSyntax)},
	{api.Op{Kind: 8, Text: "5784-M05L-30 5785-M06-29 "}, failed(api.ErrSyntax)},
	{api.Op{Kind: 8, Text: "5785-M05L-30 5785"}, failed(api.ErrRange)},
	{api.Op{Kind: 8, Text: "5785 5785-M05L-30"}, failed(api.ErrSyntax)},
	{api.Op{Kind: 8, Text: "5784-M05L-30 5785-M06-30", A: 9}, failed(api.ErrRange)},
	{api.Op{Kind: 8, Text: " "}, failed(api.ErrSyntax)},
	{api.Op{Kind: 8, Text: "5784-M05L-30\t5785-M06-29"}, failed(api.ErrSyntax)},
	{api.Op{Kind: 9, Text: "5784-M05L-30", A: 5785}, api.Answer{Date: date(5785, 7, false, 1), Text: "5785-M07-01"}},
	{api.Op{Kind: 10, Text: "5784-M05L-30", A: 5785}, api.Answer{Date: date(5785, 5, false, 30), Text: "5785-M05-30"}},
	{api.Op{Kind: 9, Text: "5784-M05L-30", A: 5784}, failed(api.ErrArg)},
	{api.Op{Kind: 10, Text: "5784-M05L-30", A: 5784}, failed(api.ErrArg)},
	{api.Op{Kind: 9, Text: "5784-M05L-30", A: 10000}, failed(api.ErrRange)},
	{api.Op{Kind: 10, Text: "5785-M05L-30", A: 5784}, failed(api.ErrRange)},
	{api.Op{Kind: 9, Text: "30 Adar I 5784", A: 5785}, failed(api.ErrSyntax)},
	{api.Op{Kind: 10, Text: "", A: 5785}, failed(api.ErrSyntax)},
}

var days = []test{
	{api.Op{Kind: 11, A: 739032}, api.Answer{N: 33}},
	{api.Op{Kind: 11, A: 738999}, api.Answer{}},
	{api.Op{Kind: 11, A: -1373428}, failed(api.ErrRange)},
	{api.Op{Kind: 12, A: 739101}, api.Answer{N: 42, Text: "Matot-Masei"}},
	{api.Op{Kind: 12, A: 739101, B: 1}, api.Answer{N: 42, Text: "Matot-Masei"}},
	{api.Op{Kind: 12, A: 738807}, api.Answer{N: 1, Text: "Bereshit"}},
	{api.Op{Kind: 12, A: 738667}, api.Answer{}},
	{api.Op{Kind: 12, A: 738667, B: 1}, api.Answer{N: 35, Text: "Naso"}},
	{api.Op{Kind: 12, A: 739102}, failed(api.ErrDay)},
	{api.Op{Kind: 12, A: 739101, B: 2}, failed(api.ErrArg)},
	{api.Op{Kind: 12, A: math.MaxInt, B: -1}, failed(api.ErrArg)},
	{api.Op{Kind: 12, A: math.MinInt}, failed(api.ErrRange)},
	{api.Op{Kind: 0}, failed(api.ErrOp)},
	{api.Op{Kind: 13, A: 5784, Text: "5784-M01-01"}, failed(api.ErrOp)},
	{api.Op{Kind: -1}, failed(api.ErrOp)},
	{api.Op{Kind: math.MinInt}, failed(api.ErrOp)},
	{api.Op{Kind: math.MaxInt}, failed(api.ErrOp)},
	{api.Op{Kind: 257, A: 5785}, failed(api.ErrOp)},
}

func tests() []test {
	return slices.Concat(years, dates, durations, days)
}

func TestDo(t *testing.T) {
	for _, x := range tests() {
		if a := script.Do(x.o); a != x.want {
			t.Errorf("Do(%v) = %v; want %v", x.o, a, x.want)
		}
	}
}

// seen tells which of A, B, Span and Text an operation of a kind looks at.
func seen(kind int) (bool, bool, bool, bool) {
	a := kind != api.OpToDay && kind != api.OpCivil && kind != api.OpParse
	read := kind >= api.OpToDay && kind <= api.OpDeath && kind != api.OpFromDay
	return a, kind == api.OpReading, kind == api.OpAdd, read
}

func TestWhatIsNotNamedIsNotLookedAt(t *testing.T) {
	for _, x := range tests() {
		a, b, span, read := seen(x.o.Kind)
		o := x.o
		o.C, o.Leap = math.MinInt, true
		if !a {
			o.A = 77
		}
		if !b {
			o.B = -3
		}
		if !span {
			o.Span = api.Span{Years: math.MaxInt, Days: -1}
		}
		if !read {
			o.Text = "5784-M05L-30"
		}
		if got := script.Do(o); got != x.want {
			t.Errorf("Do(%v) = %v; want %v", o, got, x.want)
		}
	}
}

func TestRun(t *testing.T) {
	var l []api.Op
	var want []api.Answer
	for _, x := range tests() {
		l = append(l, x.o)
		want = append(want, x.want)
	}
	kept := slices.Clone(l)
	answers, e := script.Run(l)
	if !slices.Equal(answers, want) || e != api.OK {
		t.Errorf("Run: %v, %d; want %v", answers, e, want)
	}
	if !slices.Equal(l, kept) {
		t.Error("what was handed in was changed")
	}
	for i := range l {
		first, _ := script.Run(l[:i])
		second, _ := script.Run(l[i:])
		if !slices.Equal(slices.Concat(first, second), want) {
			t.Errorf("in two parts, at %d: %v, %v", i, first, second)
		}
	}
	if answers, e := script.Run(nil); len(answers) != 0 || e != api.OK {
		t.Errorf("Run of nothing: %v, %d", answers, e)
	}
}

func TestRunOfTooMany(t *testing.T) {
	l := make([]api.Op, api.MaxOps+1)
	for i := range l {
		l[i] = api.Op{Kind: api.OpLength, A: 5784}
	}
	answers, e := script.Run(l[:api.MaxOps])
	if len(answers) != api.MaxOps || e != api.OK || answers[api.MaxOps-1] != (api.Answer{N: 383}) {
		t.Errorf("%d operations: %d answers, %d", api.MaxOps, len(answers), e)
	}
	if answers, e := script.Run(l); len(answers) != 0 || e != api.ErrArg {
		t.Errorf("one more: %d answers, %d", len(answers), e)
	}
}

func TestAnswersAreTheCalls(t *testing.T) {
	for y := 1; y <= 9999; y += 101 {
		first, _ := newyear.First(y)
		if a := script.Do(api.Op{Kind: api.OpNewYear, A: y}); a != (api.Answer{N: first}) {
			t.Errorf("first day of %d: %v", y, a)
		}
		day := first + 6 - (first%7+7)%7 + 7*(y%50)
		d, _ := heb.FromDay(day)
		s, _ := text.Heb(d)
		if a := script.Do(api.Op{Kind: api.OpFromDay, A: day}); a != (api.Answer{Date: d, Text: s}) {
			t.Errorf("date of %d: %v", day, a)
		}
		if a := script.Do(api.Op{Kind: api.OpToDay, Text: s}); a != (api.Answer{Date: d, N: day}) {
			t.Errorf("day of %s: %v", s, a)
		}
		r, e := torah.Of(day, y%2)
		var names []string
		for i := range r.Many {
			names = append(names, torah.Name(r.First+i))
		}
		want := api.Answer{Err: e, N: r.First, Text: strings.Join(names, "-")}
		if a := script.Do(api.Op{Kind: api.OpReading, A: day, B: y % 2}); a != want {
			t.Errorf("reading of %d: %v; want %v", day, a, want)
		}
	}
	if a := script.Do(api.Op{Kind: api.OpFromDay, A: closed.Last() + 1}); a != failed(api.ErrRange) {
		t.Errorf("the day behind the last one: %v", a)
	}
}

func TestSame(t *testing.T) {
	a := []api.Answer{{N: 1}, {Err: api.ErrDay}}
	changed := []api.Answer{
		{Err: api.ErrArg}, {N: 2}, {N: 1, Date: date(1, 0, false, 0)}, {N: 1, Date: date(0, 0, true, 0)}, {N: 1, Civil: api.Civil{Day: 1}},
		{N: 1, Span: api.Span{Weeks: 1}}, {N: 1, Text: "x"},
	}
	for _, x := range changed {
		if b := []api.Answer{x, a[1]}; script.Same(a, b) || script.Same(b, a) {
			t.Errorf("Same(%v, %v)", a, b)
		}
	}
	if script.Same(a, a[:1]) || script.Same(a[:1], a) || script.Same(a, []api.Answer{a[1], a[0]}) || script.Same(nil, a) {
		t.Error("others are not the same")
	}
	if !script.Same(a, slices.Clone(a)) || !script.Same(nil, []api.Answer{}) || !script.Same(nil, nil) {
		t.Error("the same are the same")
	}
}
