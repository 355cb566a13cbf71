package utc_test

import (
	"fmt"
	"math"
	"math/big"
	"math/rand/v2"
	"slices"
	"sync"
	"testing"
	"time"

	"epact/api"
	"epact/leaps"
	"epact/utc"
)

// The numbers that the chapters name, written out.
const (
	daySeconds = 86400
	lastAtto   = 999999999999999999
	lastDay    = 1099511627776 // and -lastDay is the first one
	century    = 15020         // January 1, 1900
	latest     = 1125899906774400
	fullTable  = 64
)

var (
	least = api.Wide{Hi: math.MinInt64}
	most  = api.Wide{Hi: math.MaxInt64, Lo: math.MaxUint64}
)

// secs are seconds that a label may have.
var secs = []int{0, 1, 2, 43200, 86397, 86398, 86399, 86400}

// noSecs are seconds that no label has.
var noSecs = []int{-1, -2, -86400, 86401, 86402, 2 * 86400, 1 << 32, -1 << 32, math.MaxInt - 1000, math.MaxInt, math.MinInt}

// attos are attoseconds that a label may have.
var attos = []int{0, 1, 500000000000000000, lastAtto - 1, lastAtto}

// noAttos are attoseconds that no label has.
var noAttos = []int{-1, -2, -lastAtto, lastAtto + 1, lastAtto + 2, 2 * lastAtto, math.MaxInt, math.MinInt}

// noDays are days out of range; times 86400, or times 86400 seconds, some would come into it again, if they wrapped.
var noDays = []int{
	lastDay + 1, lastDay + 2, 2 * lastDay, -lastDay - 1, -lastDay - 2, -2 * lastDay, 1 << 57, -1 << 57, 1<<57 + 41317, 1<<62 + 41317, 1 << 62, -1 << 62,
	1<<57 - 1, math.MaxInt / daySeconds, math.MaxInt/daySeconds + 1, math.MinInt/daySeconds - 1, math.MaxInt - 1, math.MaxInt, math.MinInt, math.MinInt + 1,
}

// table answers a table of entries At, Off, At, Off, ..
func table(numbers ...int) api.Table {
	x := api.Table{Updated: 5, Expires: 7}
	for n := 0; n < len(numbers); n += 2 {
		x.Entries = append(x.Entries, api.Entry{At: numbers[n], Off: numbers[n+1]})
	}
	return x
}

// example answers the table of chapter 12's example.
func example() api.Table {
	return table(2272060800, 10, 2287785600, 11)
}

// both answers a table with a leap second, and a negative one.
func both() api.Table {
	return table(2272060800, 10, 2287785600, 11, 2287785600+5*daySeconds, 10)
}

// waving answers a full table whose Off goes to and fro at the end of each day.
func waving(at, off int) api.Table {
	x := table()
	for n := range fullTable {
		x.Entries = append(x.Entries, api.Entry{At: at + n*daySeconds, Off: off + n%2})
	}
	return x
}

// steady answers a full table whose Off goes by the same at the end of each day.
func steady(at, off, by int) api.Table {
	x := table()
	for n := range fullTable {
		x.Entries = append(x.Entries, api.Entry{At: at + n*daySeconds, Off: off + n*by})
	}
	return x
}

// published answers the entries that have been published till now.
func published() api.Table {
	x := table()
	for n, at := range []int{
		2272060800, 2287785600, 2303683200, 2335219200, 2366755200, 2398291200, 2429913600, 2461449600, 2492985600, 2524521600,
		2571782400, 2603318400, 2634854400, 2698012800, 2776982400, 2840140800, 2871676800, 2918937600, 2950473600, 2982009600,
		3029443200, 3076704000, 3124137600, 3345062400, 3439756800, 3550089600, 3644697600, 3692217600,
	} {
		x.Entries = append(x.Entries, api.Entry{At: at, Off: n + 10})
	}
	return x
}

// tables answers tables that may be, at the edges of what one may be.
func tables() []api.Table {
	end := latest - (fullTable-1)*daySeconds
	return []api.Table{
		example(), both(), published(),
		table(0, 0), table(0, 1000), table(latest, 0), table(latest, 1000), table(daySeconds, 1),
		table(0, 0, daySeconds, 1), table(0, 1, daySeconds, 0), table(0, 1000, daySeconds, 999), table(0, 999, latest, 1000), table(0, 1, latest, 0),
		table(0, 5, daySeconds, 6, 2*daySeconds, 5), table(0, 5, daySeconds, 4, 2*daySeconds, 5), table(0, 5, 2*daySeconds, 6, 4*daySeconds, 7),
		waving(0, 0), waving(2272060800, 10), waving(end, 999), steady(0, 0, 1), steady(0, 1000, -1), steady(2272060800, 100, -1), steady(end, 1000-fullTable+1, 1),
	}
}

// drawn answers a table that may be, of any count of entries.
func drawn(r *rand.Rand) api.Table {
	x := table()
	at, off := r.IntN(100), r.IntN(1001)
	for range 1 + r.IntN(fullTable) {
		x.Entries = append(x.Entries, api.Entry{At: at * daySeconds, Off: off})
		at += 1 + r.IntN(1<<r.IntN(26))
		if off == 0 || off < 1000 && r.IntN(2) == 0 {
			off++
		} else {
			off--
		}
	}
	return x
}

// made answers the leap seconds of x, which may be.
func made(t *testing.T, x api.Table) *leaps.Leaps {
	t.Helper()
	l, e := leaps.New(x)
	if l == nil || e != api.OK {
		t.Fatalf("New(%v): %v, %d; want OK", x, l, e)
	}
	return l
}

func bigOf(a api.Wide) *big.Int {
	n := big.NewInt(a.Hi)
	n.Lsh(n, 64)
	return n.Add(n, new(big.Int).SetUint64(a.Lo))
}

// wideOf answers n, which fits.
func wideOf(n *big.Int) api.Wide {
	lo := new(big.Int).And(n, new(big.Int).SetUint64(math.MaxUint64))
	return api.Wide{Hi: new(big.Int).Rsh(n, 64).Int64(), Lo: lo.Uint64()}
}

// counted answers so many seconds and attoseconds as attoseconds.
func counted(seconds, atto int) *big.Int {
	n := new(big.Int).Mul(big.NewInt(int64(seconds)), big.NewInt(lastAtto+1))
	return n.Add(n, big.NewInt(int64(atto)))
}

// dayOf works out the day of an entry.
func dayOf(entry api.Entry) int {
	return century + entry.At/daySeconds
}

// beginning works out the TAI second with which an entry begins.
func beginning(entry api.Entry) int {
	return dayOf(entry)*daySeconds + entry.Off
}

// wantDay works out, entry by entry, the offset and the length of a day that is not ahead of the first one.
func wantDay(x api.Table, day int) (off, length int) {
	length = daySeconds
	for n, entry := range x.Entries {
		if dayOf(entry) <= day {
			off = entry.Off
		}
		if n > 0 && dayOf(entry)-1 == day {
			length += entry.Off - x.Entries[n-1].Off
		}
	}
	return off, length
}

// wantTai works out the instant of a label.
func wantTai(x api.Table, label api.Label) (*big.Int, api.Errno) {
	if label.Sec < 0 || label.Sec > daySeconds || label.Atto < 0 || label.Atto > lastAtto {
		return nil, api.ErrArg
	}
	if label.Day < -lastDay || label.Day > lastDay {
		return nil, api.ErrOver
	}
	if label.Day < dayOf(x.Entries[0]) {
		return nil, api.ErrEarly
	}
	off, length := wantDay(x, label.Day)
	if label.Sec >= length {
		return nil, api.ErrNone
	}
	return counted(label.Day*daySeconds+label.Sec+off, label.Atto), api.OK
}

// wantLabel works out the label of an instant: of all days about it, the one that has such a second.
func wantLabel(t *testing.T, x api.Table, instant *big.Int) (api.Label, api.Errno) {
	t.Helper()
	if instant.Cmp(counted(beginning(x.Entries[0]), 0)) < 0 {
		return api.Label{}, api.ErrEarly
	}
	seconds, atto := new(big.Int).DivMod(instant, big.NewInt(lastAtto+1), new(big.Int))
	if seconds.Cmp(big.NewInt(2*lastDay*daySeconds)) > 0 {
		return api.Label{}, api.ErrOver
	}
	s := int(seconds.Int64())
	var found []api.Label
	for day := max(s/daySeconds-2, dayOf(x.Entries[0])); day <= s/daySeconds+1; day++ {
		off, length := wantDay(x, day)
		if sec := s - off - day*daySeconds; sec >= 0 && sec < length {
			found = append(found, api.Label{Day: day, Sec: sec, Atto: int(atto.Int64())})
		}
	}
	if len(found) != 1 {
		t.Fatalf("%v: instant %s has the labels %v; want one", x, instant, found)
	}
	if found[0].Day > lastDay {
		return api.Label{}, api.ErrOver
	}
	return found[0], api.OK
}

// checkTai holds what is told of a label against what it must be, and the label against that of its instant.
func checkTai(t *testing.T, l *leaps.Leaps, x api.Table, label api.Label) api.Errno {
	t.Helper()
	want, e := wantTai(x, label)
	n := api.Wide{}
	if e == api.OK {
		n = wideOf(want)
	}
	if got, gotE := utc.Tai(l, label); got != n || gotE != e {
		t.Fatalf("%v: Tai(%v) = %s, %d; want %s, %d", x, label, bigOf(got), gotE, want, e)
	}
	if got := utc.Exists(l, label); got != (e == api.OK) {
		t.Fatalf("%v: Exists(%v) = %t; Tai's error is %d", x, label, got, e)
	}
	if e == api.OK {
		if got, gotE := utc.Label(l, n); got != label || gotE != api.OK {
			t.Fatalf("%v: Label(%s) = %v, %d; want %v", x, want, got, gotE, label)
		}
	}
	return e
}

// checkLabel holds what is told of an instant that fits against what it must be, and the instant against that of its label.
func checkLabel(t *testing.T, l *leaps.Leaps, x api.Table, instant *big.Int) api.Errno {
	t.Helper()
	want, e := wantLabel(t, x, instant)
	got, gotE := utc.Label(l, wideOf(instant))
	if got != want || gotE != e {
		t.Fatalf("%v: Label(%s) = %v, %d; want %v, %d", x, instant, got, gotE, want, e)
	}
	if e == api.OK {
		if n, f := utc.Tai(l, want); bigOf(n).Cmp(instant) != 0 || f != api.OK {
			t.Fatalf("%v: Tai(%v) = %s, %d; want %s", x, want, bigOf(n), f, instant)
		}
	}
	return e
}

// daysAbout answers days at the edges of x's entries, of the range, and of an int.
func daysAbout(x api.Table) []int {
	days := []int{-lastDay, -lastDay + 1, -1, 0, 1, century - 1, century, lastDay - 1, lastDay}
	days = append(days, noDays...)
	for _, entry := range x.Entries {
		for by := -2; by <= 2; by++ {
			days = append(days, dayOf(entry)+by)
		}
	}
	return days
}

// secondsAbout answers TAI seconds at the edges of x's entries, of their days, and of the range.
func secondsAbout(x api.Table) []int {
	last := x.Entries[len(x.Entries)-1].Off
	seconds := []int{0, 1, -1, 2, -daySeconds, century * daySeconds, math.MinInt, math.MinInt + 1, math.MaxInt, math.MaxInt - 1, math.MaxInt - 1000}
	for by := -3; by <= 3; by++ {
		seconds = append(seconds, -lastDay*daySeconds+by, (lastDay+1)*daySeconds+by, (lastDay+1)*daySeconds+last+by, lastDay*daySeconds+last+by)
		for _, entry := range x.Entries {
			at := beginning(entry)
			seconds = append(seconds, at+by, dayOf(entry)*daySeconds+by, at-daySeconds+by, at+daySeconds+by, at+daySeconds/2+by)
		}
	}
	return seconds
}

// checkTable holds all that is told by x, at its edges, against what it must be.
func checkTable(t *testing.T, x api.Table) {
	t.Helper()
	l := made(t, x)
	labels, instants := map[api.Errno]int{}, map[api.Errno]int{}
	for _, day := range daysAbout(x) {
		for _, sec := range append([]int{-1, 86401}, secs...) {
			for _, atto := range []int{-1, 0, 1, lastAtto, lastAtto + 1} {
				labels[checkTai(t, l, x, api.Label{Day: day, Sec: sec, Atto: atto})]++
			}
		}
	}
	for _, s := range secondsAbout(x) {
		for _, atto := range attos {
			instants[checkLabel(t, l, x, counted(s, atto))]++
		}
	}
	for _, e := range []api.Errno{api.OK, api.ErrArg, api.ErrOver, api.ErrEarly, api.ErrNone} {
		if labels[e] == 0 {
			t.Errorf("%v: errors of labels %v, want some of %d", x, labels, e)
		}
	}
	for _, e := range []api.Errno{api.OK, api.ErrOver, api.ErrEarly} {
		if instants[e] == 0 {
			t.Errorf("%v: errors of instants %v, want some of %d", x, instants, e)
		}
	}
}

// P13.1, P13.2: the chapter's example, and the whole's first ones.
func TestExample(t *testing.T) {
	l := made(t, example())
	leap := api.Label{Day: 41498, Sec: 86400}
	want := wideOf(counted(41498*86400+86410, 0))
	if n, e := utc.Tai(l, leap); n != want || e != api.OK {
		t.Errorf("Tai(%v) = %v, %d; want %v", leap, n, e, want)
	}
	if x, e := utc.Label(l, want); x != leap || e != api.OK {
		t.Errorf("Label(%v) = %v, %d; want %v", want, x, e, leap)
	}
	if !utc.Exists(l, leap) {
		t.Errorf("there is no %v", leap)
	}
	none := api.Label{Day: 41497, Sec: 86400}
	if n, e := utc.Tai(l, none); n != (api.Wide{}) || e != api.ErrNone || utc.Exists(l, none) {
		t.Errorf("Tai(%v) = %v, %d; want ErrNone", none, n, e)
	}
	next, e := utc.Tai(l, api.Label{Day: 41499})
	if by := new(big.Int).Sub(bigOf(next), bigOf(want)); by.Cmp(counted(1, 0)) != 0 || e != api.OK {
		t.Errorf("the leap second and the next day are %s apart, %d", by, e)
	}
}

// P13.1: instants, as texts.
func TestTaiTexts(t *testing.T) {
	for label, want := range map[api.Label]string{
		{Day: 41317}:                                   "3569788810000000000000000000",
		{Day: 41317, Atto: 1}:                          "3569788810000000000000000001",
		{Day: 41498, Sec: 86399, Atto: lastAtto}:       "3585513609999999999999999999",
		{Day: 41498, Sec: 86400}:                       "3585513610000000000000000000",
		{Day: 41498, Sec: 86400, Atto: lastAtto}:       "3585513610999999999999999999",
		{Day: 41499}:                                   "3585513611000000000000000000",
		{Day: 41503, Sec: 86398, Atto: lastAtto}:       "3585945609999999999999999999",
		{Day: 41504}:                                   "3585945610000000000000000000",
		{Day: lastDay, Sec: 86399, Atto: lastAtto}:     "94997804639932809999999999999999999",
		{Day: lastDay - 1, Sec: 86399, Atto: lastAtto}: "94997804639846409999999999999999999",
	} {
		l := made(t, both())
		n, e := utc.Tai(l, label)
		if got := bigOf(n).String(); got != want || e != api.OK || !utc.Exists(l, label) {
			t.Errorf("Tai(%v) = %s, %d; want %s", label, got, e, want)
		}
		if x, e := utc.Label(l, n); x != label || e != api.OK {
			t.Errorf("Label(%s) = %v, %d; want %v", want, x, e, label)
		}
	}
}

// P13.1, P13.2: tables at the edges of what one may be.
func TestTables(t *testing.T) {
	for _, x := range tables() {
		checkTable(t, x)
	}
}

// P13.1, P13.2: tables, labels and instants with a fixed seed.
func TestDrawn(t *testing.T) {
	r := rand.New(rand.NewPCG(13, 1))
	for range 150 {
		x := drawn(r)
		l := made(t, x)
		for _, entry := range x.Entries {
			for range 40 {
				day, sec := dayOf(entry)+r.IntN(7)-3, []int{r.IntN(daySeconds), daySeconds - r.IntN(4)}[r.IntN(2)]
				checkTai(t, l, x, api.Label{Day: day, Sec: sec, Atto: r.IntN(lastAtto + 1)})
				checkLabel(t, l, x, counted(beginning(entry)+r.IntN(9)-4, r.IntN(lastAtto+1)))
				checkLabel(t, l, x, counted(beginning(entry)+r.IntN(10*daySeconds)-5*daySeconds, r.IntN(lastAtto+1)))
			}
		}
		for range 100 {
			checkTai(t, l, x, api.Label{Day: r.IntN(2*lastDay+2) - lastDay - 1, Sec: r.IntN(daySeconds + 1), Atto: r.IntN(lastAtto + 1)})
			checkTai(t, l, x, api.Label{Day: int(r.Uint64()), Sec: int(r.Uint64()) >> r.IntN(64), Atto: int(r.Uint64()) >> r.IntN(64)})
			n := new(big.Int).Rsh(bigOf(api.Wide{Hi: int64(r.Uint64()), Lo: r.Uint64()}), uint(r.IntN(127)))
			checkLabel(t, l, x, n)
		}
	}
}

// P13.2: instants at all of a Wide's sizes, those whose seconds no int tells among them: none of them comes to what is known by wrapping.
func TestInstantsEverywhere(t *testing.T) {
	for _, x := range []api.Table{both(), table(0, 0), table(latest, 1000)} {
		l := made(t, x)
		errors := map[api.Errno]int{}
		known := counted(41400*daySeconds, 5)
		turn := new(big.Int).Mul(new(big.Int).Lsh(big.NewInt(1), 64), counted(1, 0)) // 2^64 seconds
		check := func(n *big.Int) {
			for by := int64(-2); by <= 2; by++ {
				if near := new(big.Int).Add(n, big.NewInt(by)); near.Cmp(bigOf(least)) >= 0 && near.Cmp(bigOf(most)) <= 0 {
					errors[checkLabel(t, l, x, near)]++
				}
			}
		}
		for i := range uint(128) {
			n := new(big.Int).Lsh(big.NewInt(1), i)
			check(n)
			check(new(big.Int).Neg(n))
		}
		for times := int64(-9); times <= 9; times++ {
			check(new(big.Int).Add(known, new(big.Int).Mul(turn, big.NewInt(times))))
		}
		for _, s := range []int{math.MaxInt, math.MinInt, math.MaxInt - 1001, math.MinInt + 1001} {
			for _, more := range []int{-1001, -1, 0, 1, 1001} {
				check(new(big.Int).Add(counted(s, 0), counted(more, 0)))
			}
		}
		check(bigOf(least))
		check(bigOf(most))
		if errors[api.OK] == 0 || errors[api.ErrOver] == 0 || errors[api.ErrEarly] == 0 {
			t.Errorf("%v: errors %v, want some of all", x, errors)
		}
	}
}

// P13.2: the first instant and the last one that have a label, and those beside them.
func TestEnds(t *testing.T) {
	for _, x := range tables() {
		l := made(t, x)
		first, last := x.Entries[0], x.Entries[len(x.Entries)-1]
		begin := counted(beginning(first), 0)
		end := counted((lastDay+1)*daySeconds+last.Off, 0)
		one := big.NewInt(1)
		if got, e := utc.Label(l, wideOf(begin)); got != (api.Label{Day: dayOf(first)}) || e != api.OK {
			t.Errorf("%v: first label %v, %d", x, got, e)
		}
		if got, e := utc.Label(l, wideOf(new(big.Int).Sub(begin, one))); got != (api.Label{}) || e != api.ErrEarly {
			t.Errorf("%v: ahead of the first label %v, %d; want ErrEarly", x, got, e)
		}
		if got, e := utc.Label(l, wideOf(new(big.Int).Sub(end, one))); got != (api.Label{Day: lastDay, Sec: 86399, Atto: lastAtto}) || e != api.OK {
			t.Errorf("%v: last label %v, %d", x, got, e)
		}
		if got, e := utc.Label(l, wideOf(end)); got != (api.Label{}) || e != api.ErrOver {
			t.Errorf("%v: behind the last label %v, %d; want ErrOver", x, got, e)
		}
	}
}

// oneOn answers the label one attosecond behind label, by the lengths of x's days.
func oneOn(x api.Table, label api.Label) api.Label {
	label.Atto++
	if label.Atto > lastAtto {
		label.Sec, label.Atto = label.Sec+1, 0
	}
	if _, length := wantDay(x, label.Day); label.Sec >= length {
		label.Day, label.Sec = label.Day+1, 0
	}
	return label
}

// P13.1, P13.2, P1: instants that follow one another have labels that do, and the other way round, across the ends of seconds and of days of each length.
func TestOneByOne(t *testing.T) {
	for _, x := range tables() {
		l := made(t, x)
		for _, entry := range x.Entries {
			for day := max(dayOf(entry)-1, dayOf(x.Entries[0])); day <= dayOf(entry)+1; day++ {
				_, length := wantDay(x, day)
				for sec := length - 3; sec < length; sec++ {
					follow(t, l, x, api.Label{Day: day, Sec: sec, Atto: lastAtto - 2})
				}
			}
		}
	}
}

// follow goes some attoseconds on from a label that is there.
func follow(t *testing.T, l *leaps.Leaps, x api.Table, label api.Label) {
	t.Helper()
	n, e := utc.Tai(l, label)
	if e != api.OK {
		t.Fatalf("%v: Tai(%v): %d", x, label, e)
	}
	instant := bigOf(n)
	for range 6 {
		instant.Add(instant, big.NewInt(1))
		label = oneOn(x, label)
		if got, e := utc.Label(l, wideOf(instant)); got != label || e != api.OK {
			t.Fatalf("%v: Label(%s) = %v, %d; want %v", x, instant, got, e, label)
		}
		if got, e := utc.Tai(l, label); got != wideOf(instant) || e != api.OK {
			t.Fatalf("%v: Tai(%v) = %s, %d; want %s", x, label, bigOf(got), e, instant)
		}
	}
}

// P13.1, P1: day by day, each second that the day has is there, one second behind the one ahead of it, and no other is.
func TestEverySecond(t *testing.T) {
	for _, x := range []api.Table{both(), table(0, 5, daySeconds, 4, 3*daySeconds, 5), steady(latest-(fullTable-1)*daySeconds, 1000, -1)} {
		l := made(t, x)
		from := dayOf(x.Entries[max(0, len(x.Entries)-3)])
		s, _ := wantDay(x, from)
		s += from * daySeconds
		for day := from; day < from+7; day++ {
			_, length := wantDay(x, day)
			for sec := range daySeconds + 1 {
				n, e := utc.Tai(l, api.Label{Day: day, Sec: sec})
				if sec >= length {
					if n != (api.Wide{}) || e != api.ErrNone {
						t.Fatalf("%v: second %d of day %d: %v, %d; want ErrNone", x, sec, day, n, e)
					}
					continue
				}
				if want := wideOf(counted(s, 0)); n != want || e != api.OK {
					t.Fatalf("%v: second %d of day %d: %v, %d; want %v", x, sec, day, n, e, want)
				}
				s++
			}
		}
	}
}

// P13.1: the last seconds of the days of more than a lifetime.
func TestPublished(t *testing.T) {
	longer := map[int]bool{}
	for _, date := range []string{
		"1972-06-30", "1972-12-31", "1973-12-31", "1974-12-31", "1975-12-31", "1976-12-31", "1977-12-31", "1978-12-31", "1979-12-31",
		"1981-06-30", "1982-06-30", "1983-06-30", "1985-06-30", "1987-12-31", "1989-12-31", "1990-12-31", "1992-06-30", "1993-06-30",
		"1994-06-30", "1995-12-31", "1997-06-30", "1998-12-31", "2005-12-31", "2008-12-31", "2012-06-30", "2015-06-30", "2016-12-31",
	} {
		d, err := time.Parse(time.DateOnly, date)
		if err != nil {
			t.Fatal(err)
		}
		longer[int(d.Unix()/daySeconds)+40587] = true
	}
	l := made(t, published())
	for day := 41317; day < 80000; day++ {
		if !utc.Exists(l, api.Label{Day: day, Sec: 86399, Atto: lastAtto}) {
			t.Fatalf("day %d has no last second", day)
		}
		if got := utc.Exists(l, api.Label{Day: day, Sec: 86400}); got != longer[day] {
			t.Fatalf("day %d: a leap second is there: %t", day, got)
		}
	}
}

// P13.1: what may not be a label is ErrArg, whatever its day is: also where another error applies as well.
func TestNoLabel(t *testing.T) {
	wrong := []api.Label{}
	for _, sec := range append(noSecs, secs...) {
		for _, atto := range noAttos {
			wrong = append(wrong, api.Label{Sec: sec, Atto: atto})
		}
	}
	for _, sec := range noSecs {
		for _, atto := range attos {
			wrong = append(wrong, api.Label{Sec: sec, Atto: atto})
		}
	}
	l := made(t, both())
	for _, day := range append([]int{0, 41316, 41317, 41497, 41498, 41499, 41503, 41504, lastDay, -lastDay}, noDays...) {
		for _, x := range wrong {
			x.Day = day
			if n, e := utc.Tai(l, x); n != (api.Wide{}) || e != api.ErrArg || utc.Exists(l, x) {
				t.Errorf("Tai(%v) = %v, %d; want ErrArg", x, n, e)
			}
		}
	}
}

// P13.1: of labels that may be, a day out of range comes first, then one that is early, then a second that is none.
func TestWhichError(t *testing.T) {
	l := made(t, both())
	for _, x := range []struct {
		days, secs []int
		e          api.Errno
	}{
		{noDays, secs, api.ErrOver},
		{[]int{-lastDay, -lastDay + 1, -41317, -1, 0, 15019, 15020, 41315, 41316}, secs, api.ErrEarly},
		{[]int{41317, 41318, 41497, 41499, 41502, 41504, lastDay - 1, lastDay}, []int{86400}, api.ErrNone},
		{[]int{41503}, []int{86399, 86400}, api.ErrNone},
		{[]int{41317, 41318, 41497, 41499, 41502, 41504, lastDay - 1, lastDay}, []int{0, 86398, 86399}, api.OK},
		{[]int{41498}, secs, api.OK},
		{[]int{41503}, []int{0, 86398}, api.OK},
	} {
		for _, day := range x.days {
			for _, sec := range x.secs {
				for _, atto := range attos {
					label := api.Label{Day: day, Sec: sec, Atto: atto}
					if n, e := utc.Tai(l, label); e != x.e || e != api.OK && n != (api.Wide{}) || utc.Exists(l, label) != (e == api.OK) {
						t.Errorf("Tai(%v) = %v, %d; want %d", label, n, e, x.e)
					}
				}
			}
		}
	}
}

// checkNone tells that l, without a table, knows neither a label's instant nor an instant's label.
func checkNone(t *testing.T, l *leaps.Leaps, x api.Label, n api.Wide) {
	t.Helper()
	if got, e := utc.Tai(l, x); got != (api.Wide{}) || e != api.ErrNoTable || utc.Exists(l, x) {
		t.Errorf("Tai(%v) = %v, %d; want ErrNoTable", x, got, e)
	}
	if got, e := utc.Label(l, n); got != (api.Label{}) || e != api.ErrNoTable {
		t.Errorf("Label(%v) = %v, %d; want ErrNoTable", n, got, e)
	}
}

// P13.1, P13.2: without leap seconds nothing is told, whatever is asked: also where another error applies as well.
func TestNil(t *testing.T) {
	for _, x := range []api.Label{
		{}, {Day: 41317}, {Day: 41498, Sec: 86400}, {Day: lastDay}, {Day: lastDay + 1}, {Day: -lastDay - 1}, {Sec: -1}, {Sec: 86401}, {Atto: -1}, {Atto: lastAtto + 1},
		{Day: math.MaxInt, Sec: math.MaxInt, Atto: math.MaxInt}, {Day: math.MinInt, Sec: math.MinInt, Atto: math.MinInt},
	} {
		for _, n := range []api.Wide{{}, {Lo: 1}, {Hi: -1, Lo: math.MaxUint64}, wideOf(counted(41400*daySeconds, 0)), {Hi: 1 << 62}, least, most} {
			checkNone(t, nil, x, n)
		}
	}
}

// R1: leap seconds that leaps.New did not make know no table.
func TestUnmade(t *testing.T) {
	for _, n := range []api.Wide{{}, wideOf(counted(41400*daySeconds, 0)), least, most} {
		checkNone(t, new(leaps.Leaps), api.Label{Day: 41317}, n)
		checkNone(t, new(leaps.Leaps), api.Label{Day: -1, Sec: 86400}, n)
	}
}

// R4, R6: the leap seconds' table stays as it is, whatever is asked, refused or not.
func TestStays(t *testing.T) {
	l, want := made(t, both()), both()
	for _, day := range daysAbout(want) {
		for _, sec := range append(noSecs, secs...) {
			utc.Tai(l, api.Label{Day: day, Sec: sec})
			utc.Exists(l, api.Label{Day: day, Sec: sec, Atto: sec})
		}
		utc.Label(l, wideOf(counted(day, 0)))
	}
	if got := l.Table(); got.Updated != want.Updated || got.Expires != want.Expires || !slices.Equal(got.Entries, want.Entries) || l.First() != 41317 {
		t.Errorf("the table is %v; want %v", got, want)
	}
}

// R5, P6: the same asked again, others and refused ones between, has the same answers.
func TestAgain(t *testing.T) {
	x, y := both(), steady(0, 7, 1)
	l, m := made(t, x), made(t, y)
	for range 3 {
		for _, day := range []int{math.MaxInt, 41498, 41503, 41316, century, century + 1, lastDay, math.MinInt} {
			for _, sec := range []int{86400, 86399, 0, -1} {
				checkTai(t, l, x, api.Label{Day: day, Sec: sec, Atto: 3})
				checkTai(t, m, y, api.Label{Day: day, Sec: sec, Atto: 4})
			}
		}
		for _, s := range []int{math.MaxInt, 41498*daySeconds + 86410, 41504*daySeconds + 10, 41316 * daySeconds, century*daySeconds + 86407, math.MinInt, 0} {
			checkLabel(t, l, x, counted(s, 5))
			checkLabel(t, m, y, counted(s, 6))
		}
	}
}

// R5: many ask at once, from the first question on, and each has its answer.
func TestAtOnce(t *testing.T) {
	const askers, times = 16, 100
	leap, instant := api.Label{Day: 41498, Sec: 86400, Atto: 7}, wideOf(counted(41498*daySeconds+86410, 7))
	for range 20 {
		l := made(t, both())
		var all sync.WaitGroup
		faults := make([]string, askers)
		for n := range askers {
			all.Go(func() {
				for range times {
					got, e := utc.Tai(l, leap)
					back, f := utc.Label(l, instant)
					if got != instant || back != leap || e != api.OK || f != api.OK || !utc.Exists(l, leap) || utc.Exists(l, api.Label{Day: 41503, Sec: 86399}) {
						faults[n] = fmt.Sprint(got, e, back, f)
					}
				}
			})
		}
		all.Wait()
		for _, fault := range faults {
			if fault != "" {
				t.Error(fault)
			}
		}
	}
}
