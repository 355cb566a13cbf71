package rubber_test

import (
	"fmt"
	"math"
	"math/big"
	"math/rand/v2"
	"slices"
	"sync"
	"testing"

	"epact/api"
	"epact/rubber"
)

// The numbers that the chapter names, written out.
const (
	daySeconds = 86400
	lastAtto   = 999999999999999999
	lastDay    = 1048576 // and -lastDay is the first one
	mostBase   = 1000000000
	mostRate   = 1000000
	mostOff    = 1000
	mostCount  = 32
	unit       = 100000000000 // attoseconds
	leapUnits  = 10000000     // a second, in units
	dayUnits   = 864000000000 // a day, in units
)

var (
	least = api.Wide{Hi: math.MinInt64}
	most  = api.Wide{Hi: math.MaxInt64, Lo: math.MaxUint64}
	one   = big.NewInt(1)
)

// noSecs are seconds that no label has.
var noSecs = []int{-1, -2, -86400, 86401, 86402, 2 * 86400, 1 << 32, -1 << 32, math.MaxInt, math.MinInt}

// noAttos are attoseconds that no label has.
var noAttos = []int{-1, -2, -lastAtto, lastAtto + 1, lastAtto + 2, 2 * lastAtto, math.MaxInt, math.MinInt}

// attos are attoseconds that a label may have.
var attos = []int{0, 1, 2, 500000000000000000, lastAtto - 1, lastAtto}

// given is what New is given.
type given struct {
	list     []api.Segment
	day, off int
}

// segments answers segments of numbers Day, Base, From, Rate, Day, ..
func segments(numbers ...int) []api.Segment {
	list := []api.Segment{}
	for n := 0; n < len(numbers); n += 4 {
		list = append(list, api.Segment{Day: numbers[n], Base: numbers[n+1], From: numbers[n+2], Rate: numbers[n+3]})
	}
	return list
}

// published answers the chapter's segments.
func published() given {
	return given{segments(
		37300, 14228180, 37300, 12960, 37512, 13728180, 37300, 12960, 37665, 18458580, 37665, 11232, 38334, 19458580, 37665, 11232,
		38395, 32401300, 38761, 12960, 38486, 33401300, 38761, 12960, 38639, 34401300, 38761, 12960, 38761, 35401300, 38761, 12960,
		38820, 36401300, 38761, 12960, 38942, 37401300, 38761, 12960, 39004, 38401300, 38761, 12960, 39126, 43131700, 39126, 25920,
		39887, 42131700, 39126, 25920,
	), 41317, 10}
}

// single answers one segment, up to a day.
func single(day, base, from, rate, until, off int) given {
	return given{segments(day, base, from, rate), until, off}
}

// many answers as many segments as there may be, one a day, with steps to and fro.
func many(from, base, rate int) given {
	x := given{nil, from + mostCount, base / leapUnits}
	for n := range mostCount {
		x.list = append(x.list, api.Segment{Day: from + n, Base: base + n%2*leapUnits/2, From: from, Rate: rate})
	}
	return x
}

// falling answers segments of the greatest rate, that begin at the far end of what may be: at each step a great part of a day is left out.
func falling() given {
	end := lastDay
	return given{segments(
		end-4, mostBase, -lastDay, mostRate, end-3, 0, end-3-1240000, mostRate, end-2, 0, end-2-400000, mostRate, end-1, -leapUnits, end, mostRate,
	), end, 0}
}

// all answers segments that may be, at the edges of what may be.
func all() []given {
	return []given{
		published(), many(0, 0, 0), many(-lastDay, 30*leapUnits, 1), many(lastDay-mostCount, 900*leapUnits/10, 12345), falling(),
		single(0, 0, 0, 0, 1, 0), single(0, 0, 0, 0, 1, 1), single(-1, 0, 0, 0, 0, 1), single(0, -3, 7, 11, 5, 0), single(5, 123456789, -3, 999999, 50, 13),
		single(-lastDay, 0, -lastDay, 0, -lastDay+1, 0), single(lastDay-1, 0, lastDay, 0, lastDay, 1), single(-lastDay, 0, lastDay, 0, lastDay, 1),
		single(-lastDay, 0, -lastDay, 1, lastDay, 0), single(-lastDay, 0, -lastDay, 400000, lastDay, mostOff), single(-lastDay, 0, lastDay, mostRate, lastDay, 1),
		single(100, mostBase, 100, 0, 200, 101), single(100, mostBase, 100, 0, 200, 0), single(100, -leapUnits, 100, 0, 200, 0), single(100, mostBase, -9000-100, mostRate, 200, mostOff),
		// The last day has but one unit of time.
		single(0, -1, 9-864000, mostRate, 10, 0),
		// It is a second longer, to the attosecond; and not quite.
		single(0, 0, 10, 0, 10, 1), single(0, 1, 10, 0, 10, 1), single(0, -leapUnits, 10, 7, 10, 0), single(0, -leapUnits, 10, mostRate, 10, 0),
		// The same at a step.
		{segments(0, 0, -864000, mostRate, 10, 9*mostRate+1, 10, 0), 100, 0},
		{segments(0, 0, 0, 0, 1, leapUnits, 0, 0, 2, 2*leapUnits, 0, 0), 3, 3},
		{segments(0, 0, 0, 0, 1, leapUnits, 0, 0, 2, 2*leapUnits, 0, 0), 3, 2},
		{segments(-5, 0, -5, 17, -2, 51, -2, 19, 0, 51+38, 0, 23, 3, 51+38+69, 3, 29), 1000, 0},
	}
}

// made answers what is made of x, which may be.
func made(t *testing.T, x given) *rubber.Rubber {
	t.Helper()
	r, e := rubber.New(x.list, x.day, x.off)
	if r == nil || e != api.OK {
		t.Fatalf("New(%v): %v, %d; want OK", x, r, e)
	}
	return r
}

func bigOf(a api.Wide) *big.Int {
	n := big.NewInt(a.Hi)
	n.Lsh(n, 64)
	return n.Add(n, new(big.Int).SetUint64(a.Lo))
}

// wideOf answers n, which fits.
func wideOf(n *big.Int) api.Wide {
	lo := new(big.Int).And(n, new(big.Int).SetUint64(math.MaxUint64))
	return api.Wide{Hi: new(big.Int).Rsh(n, 64).Int64(), Lo: lo.Uint64()}
}

// counted answers so many seconds and attoseconds as attoseconds.
func counted(seconds, atto int) *big.Int {
	n := new(big.Int).Mul(big.NewInt(int64(seconds)), big.NewInt(lastAtto+1))
	return n.Add(n, big.NewInt(int64(atto)))
}

// plus answers n and by.
func plus(n *big.Int, by int) *big.Int {
	return new(big.Int).Add(n, big.NewInt(int64(by)))
}

// instant works out what s says of count u, as one fraction, rounded down at last.
func instant(s api.Segment, u *big.Int) *big.Int {
	length := counted(daySeconds, 0)
	n := new(big.Int).Sub(u, counted(s.From*daySeconds, 0))
	n.Mul(n, big.NewInt(int64(s.Rate)))
	n.Add(n, new(big.Int).Mul(big.NewInt(int64(s.Base)), length))
	n.Mul(n, big.NewInt(unit))
	n.Add(n, new(big.Int).Mul(u, length))
	q, _ := new(big.Int).DivMod(n, length, new(big.Int)) // DivMod rounds down, if what is divided by is above 0
	return q
}

// beginning works out where segment n of x begins, or where the last one ends.
func (x given) beginning(n int) *big.Int {
	if n == len(x.list) {
		return counted(x.day*daySeconds+x.off, 0)
	}
	return instant(x.list[n], counted(x.list[n].Day*daySeconds, 0))
}

// last answers the last day of segment n of x.
func (x given) last(n int) int {
	if n+1 == len(x.list) {
		return x.day - 1
	}
	return x.list[n+1].Day - 1
}

// mayBe tells whether there may be such segments.
func (x given) mayBe() bool {
	if len(x.list) < 1 || len(x.list) > mostCount || x.off < 0 || x.off > mostOff {
		return false
	}
	days := []int{}
	for _, s := range x.list {
		if s.Base < -mostBase || s.Base > mostBase || s.From < -lastDay || s.From > lastDay || s.Rate < 0 || s.Rate > mostRate {
			return false
		}
		days = append(days, s.Day)
	}
	days = append(days, x.day)
	for n, d := range days {
		if d < -lastDay || d > lastDay || n > 0 && days[n-1] >= d {
			return false
		}
	}
	for n, s := range x.list {
		end, last := x.beginning(n+1), x.last(n)
		if end.Cmp(instant(s, counted(last*daySeconds, 0))) <= 0 || end.Cmp(instant(s, counted((last+1)*daySeconds+1, 0))) > 0 {
			return false
		}
	}
	return true
}

// wantTai works out the instant of a label.
func (x given) wantTai(label api.Label) (*big.Int, api.Errno) {
	if label.Sec < 0 || label.Sec > daySeconds || label.Atto < 0 || label.Atto > lastAtto {
		return nil, api.ErrArg
	}
	if label.Day < x.list[0].Day {
		return nil, api.ErrEarly
	}
	if label.Day >= x.day {
		return nil, api.ErrExpired
	}
	holds := 0
	for n, s := range x.list {
		if s.Day <= label.Day {
			holds = n
		}
	}
	if label.Sec == daySeconds && label.Day != x.last(holds) {
		return nil, api.ErrNone
	}
	t := instant(x.list[holds], counted(label.Day*daySeconds+label.Sec, label.Atto))
	if t.Cmp(x.beginning(holds+1)) >= 0 {
		return nil, api.ErrNone
	}
	return t, api.OK
}

// holds answers which segment has begun last at t; an error, if none has, or all are over.
func (x given) holds(t *big.Int) (int, api.Errno) {
	if t.Cmp(x.beginning(0)) < 0 {
		return 0, api.ErrEarly
	}
	for n := range x.list {
		if t.Cmp(x.beginning(n+1)) < 0 {
			return n, api.OK
		}
	}
	return 0, api.ErrExpired
}

// isLabel tells whether label is the one of instant t in segment n: no greater count has an instant that is not above t.
func (x given) isLabel(n int, label api.Label, t *big.Int) bool {
	if label.Sec < 0 || label.Sec > daySeconds || label.Atto < 0 || label.Atto > lastAtto || label.Sec == daySeconds && label.Day != x.last(n) {
		return false
	}
	if label.Day < x.list[n].Day || label.Day > x.last(n) {
		return false
	}
	u := counted(label.Day*daySeconds+label.Sec, label.Atto)
	return instant(x.list[n], u).Cmp(t) <= 0 && instant(x.list[n], plus(u, 1)).Cmp(t) > 0
}

// checkTai holds what is told of a label against what it must be, and the label against that of its instant.
func checkTai(t *testing.T, r *rubber.Rubber, x given, label api.Label) api.Errno {
	t.Helper()
	want, e := x.wantTai(label)
	n := api.Wide{}
	if e == api.OK {
		n = wideOf(want)
	}
	if got, gotE := r.Tai(label); got != n || gotE != e {
		t.Fatalf("%v: Tai(%v) = %s, %d; want %s, %d", x, label, bigOf(got), gotE, want, e)
	}
	if e == api.OK {
		if got, gotE := r.Label(n); got != label || gotE != api.OK {
			t.Fatalf("%v: Label(%s) = %v, %d; want %v", x, want, got, gotE, label)
		}
	}
	return e
}

// checkLabel holds what is told of an instant that fits against what it must be, and against the instant of its label.
func checkLabel(t *testing.T, r *rubber.Rubber, x given, n *big.Int) api.Errno {
	t.Helper()
	holds, e := x.holds(n)
	got, gotE := r.Label(wideOf(n))
	if gotE != e || e != api.OK && got != (api.Label{}) || e == api.OK && !x.isLabel(holds, got, n) {
		t.Fatalf("%v: Label(%s) = %v, %d; want %d, and the last label that is not behind it", x, n, got, gotE, e)
	}
	if e == api.OK {
		back, f := r.Tai(got)
		if by := new(big.Int).Sub(n, bigOf(back)); f != api.OK || by.Sign() < 0 || by.Cmp(one) > 0 {
			t.Fatalf("%v: Tai(%v) = %s, %d; want %s, or one attosecond less", x, got, bigOf(back), f, n)
		}
	}
	return e
}

// checkAll holds all that is told by x, at its edges, against what it must be.
func checkAll(t *testing.T, x given) {
	t.Helper()
	r := made(t, x)
	if got := r.First(); got != x.list[0].Day {
		t.Errorf("%v: First() = %d", x, got)
	}
	labels, instants := map[api.Errno]int{}, map[api.Errno]int{}
	for _, day := range x.daysAbout() {
		for _, sec := range []int{-1, 0, 1, 43200, 86398, 86399, 86400, 86401} {
			for _, atto := range []int{-1, 0, 1, lastAtto, lastAtto + 1} {
				labels[checkTai(t, r, x, api.Label{Day: day, Sec: sec, Atto: atto})]++
			}
		}
	}
	for _, n := range x.instantsAbout() {
		instants[checkLabel(t, r, x, n)]++
	}
	for _, e := range []api.Errno{api.OK, api.ErrArg, api.ErrEarly, api.ErrExpired} {
		if labels[e] == 0 {
			t.Errorf("%v: errors of labels %v, want some of %d", x, labels, e)
		}
	}
	for _, e := range []api.Errno{api.OK, api.ErrEarly, api.ErrExpired} {
		if instants[e] == 0 {
			t.Errorf("%v: errors of instants %v, want some of %d", x, instants, e)
		}
	}
}

// daysAbout answers days at the edges of x's segments, of what may be, and of an int.
func (x given) daysAbout() []int {
	days := []int{-lastDay - 1, -lastDay, -1, 0, 1, lastDay - 1, lastDay, lastDay + 1, 1 << 57, -1 << 57, 1 << 62, -1 << 62, math.MaxInt - 1, math.MaxInt, math.MinInt, math.MinInt + 1}
	for n, s := range x.list {
		for by := -2; by <= 2; by++ {
			days = append(days, s.Day+by, x.last(n)+by)
		}
		days = append(days, s.Day+(x.last(n)-s.Day)/2)
	}
	return days
}

// instantsAbout answers instants at the edges of x's segments and of their days.
func (x given) instantsAbout() []*big.Int {
	about := []*big.Int{}
	for n, s := range x.list {
		edges := []*big.Int{x.beginning(n), x.beginning(n + 1)}
		for _, day := range []int{s.Day, s.Day + 1, s.Day + 2, x.last(n), x.last(n) + 1} {
			for sec := -1; sec <= 1; sec++ {
				edges = append(edges, counted(day*daySeconds+sec, 0), instant(s, counted(day*daySeconds+sec, 0)))
			}
		}
		for _, edge := range edges {
			for by := -2; by <= 2; by++ {
				about = append(about, plus(edge, by))
			}
			about = append(about, new(big.Int).Add(edge, counted(43200, 0)), new(big.Int).Sub(edge, counted(43200, 0)))
		}
	}
	return about
}

// drawn answers segments that may be, of any count.
func drawn(r *rand.Rand) given {
	for {
		x := given{}
		day := r.IntN(2*lastDay) - lastDay
		ahead := r.IntN(90 * leapUnits) // of TAI, in units
		for range 1 + r.IntN(mostCount) {
			s := api.Segment{Day: day, From: day + r.IntN(201) - 100, Rate: r.IntN(mostRate+1) >> r.IntN(21)}
			s.Base = ahead - s.Rate*(day-s.From)
			x.list = append(x.list, s)
			days := 1 + r.IntN(100)>>r.IntN(7)
			day += days
			step := r.IntN(2*leapUnits) - leapUnits + 1
			ahead = s.Base + s.Rate*(day-s.From) + step
		}
		x.day, x.off = day, max(0, ahead/leapUnits)
		if x.mayBe() {
			return x
		}
	}
}

// P14.1: the segments are those of the chapter.
func TestSegments(t *testing.T) {
	if got, want := rubber.Segments(), published().list; !slices.Equal(got, want) {
		t.Errorf("Segments() = %v; want %v", got, want)
	}
	if r, e := rubber.New(rubber.Segments(), 41317, 10); e != api.OK || r.First() != 37300 {
		t.Errorf("First() of the published ones %d, %d; want 37300", r.First(), e)
	}
}

// P14.2, P14.3: the chapter's example, and what the formula that was published says of days and times of day, in seconds.
func TestExample(t *testing.T) {
	x := published()
	r := made(t, x)
	begin := counted(37300*daySeconds+1, 422818000000000000)
	if n, e := r.Tai(api.Label{Day: 37300}); n != wideOf(begin) || e != api.OK {
		t.Errorf("Tai of the first label: %s, %d; want %s", bigOf(n), e, begin)
	}
	for label, want := range map[api.Label]api.Errno{
		{Day: 41316, Sec: 86400, Atto: 107757000000000000}: api.OK,
		{Day: 41316, Sec: 86400, Atto: 107759000000000000}: api.ErrNone,
		{Day: 37511, Sec: 86399, Atto: 950000000749999988}: api.OK,
		{Day: 37511, Sec: 86399, Atto: 950000000749999989}: api.ErrNone,
		{Day: 38333, Sec: 86400, Atto: 99999998700000016}:  api.OK,
		{Day: 38333, Sec: 86400, Atto: 99999998700000017}:  api.ErrNone,
		{Day: 37664, Sec: 86399, Atto: lastAtto}:           api.OK,
		{Day: 37664, Sec: 86400}:                           api.ErrNone,
		{Day: 37300, Sec: 86400}:                           api.ErrNone,
	} {
		if _, e := r.Tai(label); e != want {
			t.Errorf("Tai(%v): %d; want %d", label, e, want)
		}
	}
	for label, units := range map[api.Label]int{ // how far TAI is ahead
		{Day: 37300}: 14228180, {Day: 37301}: 14228180 + 12960, {Day: 37300, Sec: 43200}: 14228180 + 6480, {Day: 37512}: 13728180 + 212*12960, {Day: 37665}: 18458580,
		{Day: 38334}: 19458580 + 669*11232, {Day: 38395}: 32401300 - 366*12960, {Day: 38395, Sec: 60}: 32401300 - 366*12960 + 9, {Day: 38761}: 35401300, {Day: 39126}: 43131700,
		{Day: 39887}: 42131700 + 761*25920, {Day: 41316}: 42131700 + 2190*25920, {Day: 41316, Sec: 43200}: 42131700 + 2190*25920 + 12960,
	} {
		want := new(big.Int).Add(counted(label.Day*daySeconds+label.Sec, 0), new(big.Int).Mul(big.NewInt(int64(units)), big.NewInt(unit)))
		if n, e := r.Tai(label); n != wideOf(want) || e != api.OK {
			t.Errorf("Tai(%v) = %s, %d; want %s", label, bigOf(n), e, want)
		}
	}
}

// P14.2: instants, as texts; a part of an attosecond is rounded down, ahead of From too.
func TestTaiTexts(t *testing.T) {
	for _, x := range []struct {
		of    given
		label api.Label
		want  string
	}{
		{published(), api.Label{Day: 37300}, "3222720001422818000000000000"},
		{published(), api.Label{Day: 37300, Atto: 1}, "3222720001422818000000000001"},
		{published(), api.Label{Day: 37300, Sec: 1}, "3222720002422818015000000000"},
		{published(), api.Label{Day: 37300, Sec: 86399, Atto: lastAtto}, "3222806401424113999999999998"},
		{single(0, 0, 0, 1, 5, 0), api.Label{Day: 0, Sec: 1}, "1000000000001157407"},
		{single(-5, 0, 0, 1, 5, 0), api.Label{Day: -1, Sec: 86399}, "-1000000000001157408"},
		{single(-5, 0, 0, mostRate, 5, 0), api.Label{Day: -1, Sec: 86399, Atto: lastAtto}, "-2"},
		{single(-5, 0, 0, 0, 5, 0), api.Label{Day: -1, Sec: 86399, Atto: lastAtto}, "-1"},
		{single(-5, -7, 0, mostRate, 5, 0), api.Label{Atto: 1}, "-699999999999"},
	} {
		r := made(t, x.of)
		n, e := r.Tai(x.label)
		if got := bigOf(n).String(); got != x.want || e != api.OK {
			t.Errorf("%v: Tai(%v) = %s, %d; want %s", x.of, x.label, got, e, x.want)
		}
		if back, e := r.Label(n); back != x.label || e != api.OK {
			t.Errorf("%v: Label(%s) = %v, %d; want %v", x.of, x.want, back, e, x.label)
		}
	}
}

// P14.2, P14.3, P14.4: segments at the edges of what may be.
func TestAll(t *testing.T) {
	for _, x := range all() {
		if !x.mayBe() {
			t.Fatalf("%v may not be", x)
		}
		checkAll(t, x)
	}
}

// P14.2, P14.3, P14.4: segments, labels and instants with a fixed seed.
func TestDrawn(t *testing.T) {
	r := rand.New(rand.NewPCG(14, 1))
	for range 20 {
		x := drawn(r)
		checkAll(t, x)
		rubbers := made(t, x)
		for n, s := range x.list {
			for range 20 {
				day := s.Day + r.IntN(x.last(n)-s.Day+1)
				sec := []int{r.IntN(daySeconds), daySeconds - r.IntN(3)}[r.IntN(2)]
				checkTai(t, rubbers, x, api.Label{Day: []int{day, x.last(n)}[r.IntN(2)], Sec: sec, Atto: r.IntN(lastAtto + 1)})
				checkLabel(t, rubbers, x, new(big.Int).Add(x.beginning(n+1), counted(r.IntN(5)-3, r.IntN(lastAtto+1))))
				checkLabel(t, rubbers, x, counted(day*daySeconds+r.IntN(daySeconds+100), r.IntN(lastAtto+1)))
			}
		}
		for range 50 {
			checkTai(t, rubbers, x, api.Label{Day: int(r.Uint64()) >> r.IntN(64), Sec: int(r.Uint64()) >> r.IntN(64), Atto: int(r.Uint64()) >> r.IntN(64)})
			checkLabel(t, rubbers, x, new(big.Int).Rsh(bigOf(api.Wide{Hi: int64(r.Uint64()), Lo: r.Uint64()}), uint(r.IntN(127))))
		}
	}
}

// P14.2, P14.3: of drawn segments over all that may be, the ends of their last days; one segment each, so that all rates and bases come.
func TestDrawnSingle(t *testing.T) {
	r := rand.New(rand.NewPCG(14, 2))
	for found := 0; found < 400; {
		day := r.IntN(2*lastDay) - lastDay
		x := single(day, (r.IntN(2*mostBase+1)-mostBase)>>r.IntN(31), r.IntN(2*lastDay+1)-lastDay, r.IntN(mostRate+1)>>r.IntN(21), day+1+r.IntN(lastDay-day), r.IntN(mostOff+1))
		if !x.mayBe() {
			if _, e := rubber.New(x.list, x.day, x.off); e != api.ErrTable {
				t.Fatalf("New(%v): %d; want ErrTable", x, e)
			}
			continue
		}
		found++
		checkAll(t, x)
	}
}

// oneOn answers the label one attosecond behind label; where there is none on its day, the first of the next day.
func oneOn(t *testing.T, r *rubber.Rubber, label api.Label) api.Label {
	t.Helper()
	next := label
	next.Atto++
	if next.Atto > lastAtto {
		next.Sec, next.Atto = next.Sec+1, 0
	}
	if _, e := r.Tai(next); e == api.OK {
		return next
	}
	return api.Label{Day: label.Day + 1}
}

// P14.4, P2: labels that follow one another have instants that rise, by one attosecond or two, across the ends of days and segments, too;
// and each instant between has the label ahead of it.
func TestOneByOne(t *testing.T) {
	for _, x := range all() {
		r := made(t, x)
		for n := range x.list {
			end := x.beginning(n + 1)
			for _, from := range []*big.Int{x.beginning(n), new(big.Int).Sub(end, big.NewInt(40))} {
				label, e := r.Label(wideOf(from))
				if e != api.OK {
					t.Fatalf("%v: Label(%s): %d", x, from, e)
				}
				instant, twice := bigOf(mustTai(t, r, label)), 0
				for range 60 {
					if instant.Cmp(x.beginning(len(x.list))) >= 0 {
						break
					}
					if got, e := r.Label(wideOf(instant)); e != api.OK || got != label {
						next := oneOn(t, r, label)
						if got != next || e != api.OK || wideOf(instant) != mustTai(t, r, next) {
							t.Fatalf("%v: Label(%s) = %v, %d; want %v or %v", x, instant, got, e, label, next)
						}
						label, twice = next, 1
					} else if twice++; twice > 2 {
						t.Fatalf("%v: %v is the label of three instants", x, label)
					}
					instant = plus(instant, 1)
				}
			}
		}
	}
}

// mustTai answers the instant of a label that is there.
func mustTai(t *testing.T, r *rubber.Rubber, x api.Label) api.Wide {
	t.Helper()
	n, e := r.Tai(x)
	if e != api.OK {
		t.Fatalf("Tai(%v): %d", x, e)
	}
	return n
}

// checkNew holds New against what may be.
func checkNew(t *testing.T, x given, want bool) {
	t.Helper()
	if x.mayBe() != want {
		t.Errorf("%v may be: %t; want %t", x, !want, want)
	}
	if r, e := rubber.New(x.list, x.day, x.off); want && (r == nil || e != api.OK) || !want && (r != nil || e != api.ErrTable) {
		t.Errorf("New(%v) = %v, %d; want it to be: %t", x, r, e, want)
	}
}

// P14.1: each number at its least and most, and one out of that.
func TestNewNumbers(t *testing.T) {
	for _, x := range []struct {
		of   given
		want bool
	}{
		{single(-lastDay, 0, 0, 0, 0, 0), true}, {single(-lastDay-1, 0, 0, 0, 0, 0), false}, {single(math.MinInt, 0, 0, 0, 0, 0), false},
		{single(lastDay-1, 0, 0, 0, lastDay, 0), true}, {single(lastDay, 0, 0, 0, lastDay, 0), false}, {single(lastDay, 0, 0, 0, lastDay+1, 0), false},
		{single(lastDay-1, 0, 0, 0, lastDay+1, 0), false}, {single(0, 0, 0, 0, math.MaxInt, 0), false}, {single(0, 0, 0, 0, math.MinInt, 0), false},
		{single(math.MaxInt, 0, 0, 0, math.MinInt, 0), false}, {single(-lastDay-2, 0, 0, 0, -lastDay-1, 0), false},
		{single(5, 0, 0, 0, 6, 0), true}, {single(5, 0, 0, 0, 5, 0), false}, {single(5, 0, 0, 0, 4, 0), false},
		{single(5, mostBase, 0, 0, 6, 99), true}, {single(5, mostBase+1, 0, 0, 6, 99), false}, {single(5, math.MaxInt, 0, 0, 6, 99), false},
		{single(5, -mostBase, -995, mostRate, 6, 0), true}, {single(5, -mostBase-1, -995, mostRate, 6, 0), false}, {single(5, math.MinInt, -995, mostRate, 6, 0), false},
		{single(5, 0, -lastDay, 0, 6, 0), true}, {single(5, 0, -lastDay-1, 0, 6, 0), false}, {single(5, 0, lastDay, 0, 6, 0), true}, {single(5, 0, lastDay+1, 0, 6, 0), false},
		{single(5, 0, math.MinInt, 0, 6, 0), false}, {single(5, 0, math.MaxInt, 0, 6, 0), false},
		{single(5, 0, 5, mostRate, 6, 0), true}, {single(5, 0, 5, mostRate+1, 6, 0), false}, {single(5, 0, 5, -1, 6, 0), false},
		{single(5, 0, 5, math.MaxInt, 6, 0), false}, {single(5, 0, 5, math.MinInt, 6, 0), false}, {single(5, 0, 5, 1<<57, 6, 0), false},
		{single(5, 0, 5, 0, 6, -1), false}, {single(5, 0, 5, 0, 6, math.MinInt), false}, {single(5, 0, 5, 0, 6, math.MaxInt), false}, {single(5, 0, 5, 0, 6, 1<<62), false},
		{single(5, 0, 5-9990, mostRate, 6, mostOff), true}, {single(5, 0, 5-10100, mostRate, 6, mostOff), true}, {single(5, 0, 5-10100, mostRate, 6, mostOff+1), false},
		{single(math.MinInt, math.MinInt, math.MinInt, math.MinInt, math.MinInt, math.MinInt), false},
		{single(math.MaxInt, math.MaxInt, math.MaxInt, math.MaxInt, math.MaxInt, math.MaxInt), false},
	} {
		checkNew(t, x.of, x.want)
	}
}

// P14.1: as many segments as may be, and one more; days that rise, stay, or fall.
func TestNewLists(t *testing.T) {
	checkNew(t, given{nil, 5, 0}, false)
	checkNew(t, given{[]api.Segment{}, 5, 0}, false)
	full := many(100, 0, 0)
	checkNew(t, full, true)
	more := given{append(slices.Clone(full.list), segments(full.day, 0, 100, 0)...), full.day + 1, full.off}
	checkNew(t, more, false)
	checkNew(t, given{more.list[1:], more.day, more.off}, true)
	for n := range full.list {
		same := many(100, 0, 0)
		same.list[n].Day-- // that of the one ahead of it; of the first one, it may be
		checkNew(t, same, n == 0)
		same = many(100, 0, 0)
		same.list[n].Day++ // that of the one behind it, or the day
		checkNew(t, same, false)
		same = many(100, 0, 0)
		same.list[n].Rate = -1
		checkNew(t, same, false)
		same = many(100, 0, 0)
		same.list[n].Base += 2 * leapUnits // more than a second at this step
		checkNew(t, same, n == 0)
	}
	back := many(100, 0, 0)
	slices.Reverse(back.list)
	checkNew(t, back, false)
}

// P14.1: a segment ends behind the beginning of its last day, and not behind a second more than that day.
func TestNewEnds(t *testing.T) {
	step := func(day, base, from, rate int) given { // at the step UTC goes from TAI's seconds to those of another segment
		return given{segments(0, 7, 0, 0, day, base, from, rate), day + 1, max(0, base/leapUnits)}
	}
	for _, x := range []struct {
		of   given
		want bool
	}{
		{step(10, 7, 10, 0), true}, {step(10, 7+leapUnits, 10, 0), true}, {step(10, 7+leapUnits+1, 10, 0), false}, {step(10, 7+2*leapUnits, 10, 0), false}, {step(10, mostBase, 10, 0), false},
		{given{segments(0, 0, -864000, mostRate, 10, 9*mostRate, 10, 0), 100, 0}, false}, {given{segments(0, 0, -864000, mostRate, 10, 9*mostRate+1, 10, 0), 100, 0}, true},
		{step(10, 7-leapUnits, 10, 5), true}, {step(1, 7+leapUnits, 1, 3), true}, {step(1, 8+leapUnits, 1, 3), false},
		{single(0, 0, 9-864000, mostRate, 10, 0), false}, {single(0, -1, 9-864000, mostRate, 10, 0), true}, {single(0, 1, 9-864000, mostRate, 10, 0), false},
		{single(0, mostBase, 9-864000, mostRate, 10, 100), false}, {single(0, mostBase-1, 9-864000, mostRate, 10, 100), true}, {single(0, mostBase, 9-864000, mostRate, 10, 101), true},
		{single(0, 0, 10, 0, 10, 1), true}, {single(0, -1, 10, 0, 10, 1), false}, {single(0, 0, 10, 0, 10, 2), false}, {single(0, 1, 10, 0, 10, 1), true},
		{single(0, -leapUnits, 10, mostRate, 10, 0), true}, {single(0, -leapUnits-12, 10, mostRate, 10, 0), false}, {single(0, -leapUnits-11, 10, mostRate, 10, 0), true}, // a second of this rate is 11.57 units longer
		{single(0, -leapUnits-1, 10, 86400, 10, 0), true}, {single(0, -leapUnits-1, 10, 86399, 10, 0), false}, // and of this one, 1 unit
		{single(-lastDay, 0, lastDay, mostRate, lastDay, 0), true}, {single(-lastDay, 0, -lastDay, mostRate, lastDay, mostOff), false}, {single(-lastDay, 0, lastDay, mostRate, -lastDay+1, 0), false},
	} {
		checkNew(t, x.of, x.want)
	}
	p := published()
	for off := -1; off <= 1001; off++ {
		checkNew(t, given{p.list, p.day, off}, off >= 0 && off <= 10)
	}
	for n := range p.list {
		for _, by := range []int{-1, 1} {
			x := published()
			x.list[n].Base += by * 2 * leapUnits
			checkNew(t, x, x.mayBe())
		}
	}
}

// P14.1: drawn segments with a number that is turned may be just if the chapter says so.
func TestNewDrawn(t *testing.T) {
	r := rand.New(rand.NewPCG(14, 3))
	may := 0
	for range 4000 {
		x := drawn(r)
		s := &x.list[r.IntN(len(x.list))]
		by := []int{1, -1, leapUnits, -leapUnits, leapUnits / 2, -leapUnits / 2, 5 * leapUnits, dayUnits, -dayUnits, r.IntN(1000), int(r.Uint64())}[r.IntN(11)]
		switch r.IntN(6) {
		case 0:
			s.Day += by
		case 1:
			s.Base += by
		case 2:
			s.From += by
		case 3:
			s.Rate += by
		case 4:
			x.day += by
		case 5:
			x.off += by
		}
		want := x.mayBe()
		checkNew(t, x, want)
		if want {
			may++
		}
	}
	if may < 500 || may > 3500 {
		t.Errorf("%d of 4000 may be: too few, or too many", may)
	}
}

// P14.2: what may not be a label is ErrArg, whatever its day is: also where another error applies as well.
func TestNoLabel(t *testing.T) {
	r := made(t, published())
	wrong := []api.Label{}
	for _, atto := range noAttos {
		for _, sec := range append(slices.Clone(noSecs), 0, 1, 86399, 86400) {
			wrong = append(wrong, api.Label{Sec: sec, Atto: atto})
		}
	}
	for _, sec := range noSecs {
		for _, atto := range attos {
			wrong = append(wrong, api.Label{Sec: sec, Atto: atto})
		}
	}
	for _, day := range []int{37299, 37300, 37511, 37512, 40000, 41316, 41317, 0, -1, 1 << 40, math.MaxInt, math.MinInt} {
		for _, x := range wrong {
			x.Day = day
			if n, e := r.Tai(x); n != (api.Wide{}) || e != api.ErrArg {
				t.Errorf("Tai(%v) = %v, %d; want ErrArg", x, n, e)
			}
		}
	}
}

// P14.2: of labels that may be, a day out of the segments comes first, then a second that is none.
func TestWhichError(t *testing.T) {
	r := made(t, published())
	for _, x := range []struct {
		days, secs []int
		e          api.Errno
	}{
		{[]int{37299, 37298, 0, -1, -lastDay, -1 << 40, -1 << 57, math.MinInt}, []int{0, 1, 86399, 86400}, api.ErrEarly},
		{[]int{41317, 41318, lastDay, 1 << 40, 1 << 57, 1<<57 + 40000, 1 << 62, math.MaxInt}, []int{0, 1, 86399, 86400}, api.ErrExpired},
		{[]int{37300, 37510, 37512, 38332, 38334, 39125, 40000, 41315}, []int{86400}, api.ErrNone},
		{[]int{37511, 37664, 38394, 39125, 39886}, []int{86400}, api.ErrNone},
		{[]int{38333, 38485, 38638, 38760, 38819, 38941, 39003, 41316}, []int{0, 86399, 86400}, api.OK},
		{[]int{37300, 37511, 37664, 39126, 40000, 41315}, []int{0, 1, 86398}, api.OK},
	} {
		for _, day := range x.days {
			for _, sec := range x.secs {
				label := api.Label{Day: day, Sec: sec, Atto: 5}
				if n, e := r.Tai(label); e != x.e || e != api.OK && n != (api.Wide{}) {
					t.Errorf("Tai(%v) = %v, %d; want %d", label, n, e, x.e)
				}
			}
		}
	}
}

// P14.3: instants at all of a Wide's sizes: none of them comes to what is known by wrapping.
func TestInstantsEverywhere(t *testing.T) {
	for _, x := range []given{published(), falling(), single(-lastDay, 0, -lastDay, 0, lastDay, 0), single(0, 0, 0, 0, 1, 0)} {
		r := made(t, x)
		known := new(big.Int).Add(x.beginning(0), counted(5, 5))
		check := func(n *big.Int) {
			for by := -2; by <= 2; by++ {
				if near := plus(n, by); near.Cmp(bigOf(least)) >= 0 && near.Cmp(bigOf(most)) <= 0 {
					checkLabel(t, r, x, near)
				}
			}
		}
		for i := range uint(128) {
			n := new(big.Int).Lsh(one, i)
			check(n)
			check(new(big.Int).Neg(n))
			check(new(big.Int).Add(known, n))
			check(new(big.Int).Sub(known, n))
		}
		check(bigOf(least))
		check(bigOf(most))
	}
}

// P14.1, P14.2, P14.3: of nil, and (R1) of one that rubber.New did not make, nothing is told: also where another error applies as well.
func TestNil(t *testing.T) {
	for _, r := range []*rubber.Rubber{nil, new(rubber.Rubber)} {
		if got := r.First(); got != 0 {
			t.Errorf("First() = %d; want 0", got)
		}
		for _, x := range []api.Label{{}, {Day: 37300}, {Day: 41317}, {Day: -1, Sec: 86400}, {Sec: -1}, {Sec: 86401}, {Atto: -1}, {Atto: lastAtto + 1}, {Day: math.MaxInt, Sec: math.MinInt}} {
			if got, e := r.Tai(x); got != (api.Wide{}) || e != api.ErrNoTable {
				t.Errorf("Tai(%v) = %v, %d; want ErrNoTable", x, got, e)
			}
		}
		for _, n := range []api.Wide{{}, {Lo: 1}, wideOf(counted(40000*daySeconds, 0)), least, most} {
			if got, e := r.Label(n); got != (api.Label{}) || e != api.ErrNoTable {
				t.Errorf("Label(%v) = %v, %d; want ErrNoTable", n, got, e)
			}
		}
	}
}

// R4: what New is given is neither changed, nor its spare room, nor kept; what Segments answers is new each time.
func TestMemory(t *testing.T) {
	want := published()
	room := append(slices.Clone(want.list), api.Segment{Day: 1, Base: 2, From: 3, Rate: 4}, api.Segment{Day: 5})
	before := slices.Clone(room)
	r := made(t, given{room[:len(want.list)], want.day, want.off})
	made(t, given{room[3:7], room[7].Day, 3})
	rubber.New(room, want.day, want.off)
	if !slices.Equal(room, before) {
		t.Errorf("New changed %v to %v", before, room)
	}
	for n := range room {
		room[n] = api.Segment{Day: n, Base: -1, From: 40000, Rate: 7}
	}
	list := rubber.Segments()
	other := rubber.Segments()
	for n := range list {
		list[n] = api.Segment{}
	}
	list = append(list[:0], room...)
	if !slices.Equal(other, want.list) || !slices.Equal(rubber.Segments(), want.list) {
		t.Errorf("Segments() = %v behind a change of %v", rubber.Segments(), list)
	}
	if r.First() != 37300 {
		t.Errorf("First() = %d", r.First())
	}
	for _, day := range want.daysAbout() {
		checkTai(t, r, want, api.Label{Day: day, Sec: 86399, Atto: 7})
	}
}

// R5, R6: the same asked again, others and refused ones between, has the same answers.
func TestAgain(t *testing.T) {
	x, y := published(), falling()
	r, s := made(t, x), made(t, y)
	for range 3 {
		for _, day := range []int{math.MaxInt, 41316, 37300, 37299, 37511, 37512, lastDay - 1, lastDay - 4, math.MinInt, 40000} {
			for _, sec := range []int{86400, 86399, 0, -1} {
				checkTai(t, r, x, api.Label{Day: day, Sec: sec, Atto: 3})
				checkTai(t, s, y, api.Label{Day: day, Sec: sec, Atto: 4})
			}
		}
		for n := range x.list {
			checkLabel(t, r, x, x.beginning(n))
			checkLabel(t, s, y, x.beginning(n))
			checkLabel(t, s, y, plus(y.beginning(n%len(y.list)), 5))
			checkLabel(t, r, x, y.beginning(n%len(y.list)))
		}
	}
}

// R5: many ask at once, and each has its answer.
func TestAtOnce(t *testing.T) {
	const askers, times = 16, 100
	label, instant := api.Label{Day: 37301}, wideOf(counted(37301*daySeconds+1, 424114000000000000))
	r := made(t, published())
	var group sync.WaitGroup
	faults := make([]string, askers)
	for n := range askers {
		group.Go(func() {
			for range times {
				got, e := r.Tai(label)
				back, f := r.Label(instant)
				if got != instant || back != label || e != api.OK || f != api.OK || r.First() != 37300 || len(rubber.Segments()) != 13 {
					faults[n] = fmt.Sprint(got, e, back, f)
				}
			}
		})
	}
	group.Wait()
	for _, fault := range faults {
		if fault != "" {
			t.Error(fault)
		}
	}
}
