package leaps_test

import (
	"fmt"
	"math"
	"math/rand/v2"
	"slices"
	"sync"
	"testing"
	"time"

	"epact/api"
	"epact/leaps"
)

// The numbers that the chapters name, written out.
const (
	daySeconds = 86400
	century    = 15020            // January 1, 1900
	latest     = 1125899906774400 // the last day's beginning up to 2^50
	lastStamp  = 999999999999999999
	fullTable  = 64
	nothing    = 4611686018427387904 // 2^62
)

// table answers a table of entries At, Off, At, Off, ..
func table(numbers ...int) api.Table {
	x := api.Table{Updated: 5, Expires: 7}
	for n := 0; n < len(numbers); n += 2 {
		x.Entries = append(x.Entries, api.Entry{At: numbers[n], Off: numbers[n+1]})
	}
	return x
}

// example answers the table of the chapter's example.
func example() api.Table {
	return table(2272060800, 10, 2287785600, 11)
}

// both answers a table with a leap second, and a negative one.
func both() api.Table {
	return table(2272060800, 10, 2287785600, 11, 2287785600+5*daySeconds, 10)
}

// rising answers a table of so many entries, so many days apart.
func rising(count, apart int) api.Table {
	x := table()
	for n := range count {
		x.Entries = append(x.Entries, api.Entry{At: n * apart * daySeconds, Off: n})
	}
	return x
}

// waving answers a full table whose Off goes to and fro at the end of each day.
func waving(at, off int) api.Table {
	x := table()
	for n := range fullTable {
		x.Entries = append(x.Entries, api.Entry{At: at + n*daySeconds, Off: off + n%2})
	}
	return x
}

// drawn answers a table that may be, of any count of entries.
func drawn(r *rand.Rand) api.Table {
	x := api.Table{Updated: r.IntN(lastStamp + 1), Expires: r.IntN(lastStamp + 1)}
	at, off := r.IntN(100), r.IntN(1001)
	for range 1 + r.IntN(fullTable) {
		x.Entries = append(x.Entries, api.Entry{At: at * daySeconds, Off: off})
		at += 1 + r.IntN(1<<r.IntN(26))
		if off == 0 || off < 1000 && r.IntN(2) == 0 {
			off++
		} else {
			off--
		}
	}
	return x
}

// tables answers tables that may be, at the edges of what one may be.
func tables() []api.Table {
	return []api.Table{
		example(), both(), published(),
		table(0, 0), table(0, 1000), table(latest, 0), table(latest, 1000), table(daySeconds, 1),
		table(0, 0, daySeconds, 1), table(0, 1, daySeconds, 0), table(0, 1000, daySeconds, 999), table(0, 999, latest, 1000), table(0, 1, latest, 0),
		table(latest-daySeconds, 1000, latest, 999), table(0, 5, daySeconds, 6, 2*daySeconds, 5), table(0, 5, daySeconds, 4, 2*daySeconds, 3),
		rising(1, 1), rising(2, 1), rising(3, 2), rising(fullTable-1, 1), rising(fullTable, 1), rising(fullTable, 100000),
		waving(0, 0), waving(latest-(fullTable-1)*daySeconds, 999), waving(2272060800, 10),
	}
}

// published answers the entries that have been published till now.
func published() api.Table {
	x := table()
	for n, at := range []int{
		2272060800, 2287785600, 2303683200, 2335219200, 2366755200, 2398291200, 2429913600, 2461449600, 2492985600, 2524521600,
		2571782400, 2603318400, 2634854400, 2698012800, 2776982400, 2840140800, 2871676800, 2918937600, 2950473600, 2982009600,
		3029443200, 3076704000, 3124137600, 3345062400, 3439756800, 3550089600, 3644697600, 3692217600,
	} {
		x.Entries = append(x.Entries, api.Entry{At: at, Off: n + 10})
	}
	return x
}

func same(x, y api.Table) bool {
	return x.Updated == y.Updated && x.Expires == y.Expires && slices.Equal(x.Entries, y.Entries)
}

// made answers the leap seconds of x, which may be.
func made(t *testing.T, x api.Table) *leaps.Leaps {
	t.Helper()
	l, e := leaps.New(x)
	if l == nil || e != api.OK {
		t.Fatalf("New(%v): %v, %d; want OK", x, l, e)
	}
	return l
}

// dayOf works out the day of an entry.
func dayOf(entry api.Entry) int {
	return century + entry.At/daySeconds
}

// beginning works out the TAI second with which an entry begins.
func beginning(entry api.Entry) int {
	return dayOf(entry)*daySeconds + entry.Off
}

// wantDay works out, entry by entry, what is told of a day.
func wantDay(x api.Table, day int) (off, change, length int, e api.Errno) {
	e = api.ErrEarly
	for n, entry := range x.Entries {
		if dayOf(entry) <= day {
			off, e = entry.Off, api.OK
		}
		if n > 0 && dayOf(entry)-1 == day {
			change = entry.Off - x.Entries[n-1].Off
		}
	}
	if e == api.OK {
		length = daySeconds + change
	}
	return off, change, length, e
}

// wantAt works out, entry by entry, what is told of a TAI second.
func wantAt(x api.Table, s int) (off, until int, e api.Errno) {
	e = api.ErrEarly
	for n, entry := range x.Entries {
		if beginning(entry) > s {
			break
		}
		off, until, e = entry.Off, nothing, api.OK
		if n+1 < len(x.Entries) {
			until = dayOf(x.Entries[n+1])
		}
	}
	return off, until, e
}

// checkDay holds what l, of table x, tells of a day against what it must be.
func checkDay(t *testing.T, l *leaps.Leaps, x api.Table, day int) api.Errno {
	t.Helper()
	off, change, length, e := wantDay(x, day)
	if got, gotE := l.Offset(day); got != off || gotE != e {
		t.Errorf("%v: Offset(%d) = %d, %d; want %d, %d", x, day, got, gotE, off, e)
	}
	if got := l.Change(day); got != change {
		t.Errorf("%v: Change(%d) = %d; want %d", x, day, got, change)
	}
	if got, gotE := l.Length(day); got != length || gotE != e {
		t.Errorf("%v: Length(%d) = %d, %d; want %d, %d", x, day, got, gotE, length, e)
	}
	return e
}

// checkAt holds what l, of table x, tells of a TAI second against what it must be.
func checkAt(t *testing.T, l *leaps.Leaps, x api.Table, s int) api.Errno {
	t.Helper()
	off, until, e := wantAt(x, s)
	if gotOff, gotUntil, gotE := l.At(s); gotOff != off || gotUntil != until || gotE != e {
		t.Errorf("%v: At(%d) = %d, %d, %d; want %d, %d, %d", x, s, gotOff, gotUntil, gotE, off, until, e)
	}
	return e
}

// checkTable holds all that is told of x, at its edges, against what it must be.
func checkTable(t *testing.T, x api.Table) {
	t.Helper()
	l := made(t, x)
	errors := map[api.Errno]int{}
	numbers := []int{math.MinInt, math.MinInt + 1, -nothing, -1, 0, 1, 15019, 15020, 15021, 1 << 40, 1 << 50, nothing - 2, nothing - 1, nothing, nothing + 1, math.MaxInt - 1, math.MaxInt}
	for _, entry := range x.Entries {
		for by := -3; by <= 3; by++ {
			numbers = append(numbers, dayOf(entry)+by, beginning(entry)+by, dayOf(entry)*daySeconds+by, entry.At+by)
		}
	}
	for _, n := range numbers {
		errors[checkDay(t, l, x, n)]++
		errors[checkAt(t, l, x, n)]++
	}
	if l.First() != dayOf(x.Entries[0]) || !same(l.Table(), x) {
		t.Errorf("%v: First %d, Table %v", x, l.First(), l.Table())
	}
	if errors[api.OK] == 0 || errors[api.ErrEarly] == 0 {
		t.Errorf("%v: errors %v, want some of both", x, errors)
	}
	if got, want := l.Asked(), 4*len(numbers); got != want {
		t.Errorf("%v: Asked() = %d; want %d", x, got, want)
	}
}

// P12.1, P12.2, P12.3: the chapter's example.
func TestExample(t *testing.T) {
	l := made(t, example())
	if n := l.First(); n != 41317 {
		t.Errorf("First() = %d", n)
	}
	if n := l.Change(41498); n != 1 {
		t.Errorf("Change(41498) = %d", n)
	}
	if n, e := l.Length(41498); n != 86401 || e != api.OK {
		t.Errorf("Length(41498) = %d, %d", n, e)
	}
	if n, e := l.Offset(41499); n != 11 || e != api.OK {
		t.Errorf("Offset(41499) = %d, %d", n, e)
	}
	checkTable(t, example())
}

// P12.1, P12.2, P12.3: tables at the edges of what one may be.
func TestTables(t *testing.T) {
	for _, x := range tables() {
		checkTable(t, x)
	}
}

// P12.1, P12.2, P12.3: tables with a fixed seed.
func TestDrawn(t *testing.T) {
	r := rand.New(rand.NewPCG(12, 1))
	for range 1000 {
		x := drawn(r)
		checkTable(t, x)
		l := made(t, x)
		days := dayOf(x.Entries[len(x.Entries)-1]) - dayOf(x.Entries[0]) + 10
		for range 100 {
			day := dayOf(x.Entries[0]) + r.IntN(days) - 5
			checkDay(t, l, x, day)
			checkAt(t, l, x, day*daySeconds+r.IntN(daySeconds))
			checkDay(t, l, x, int(r.Uint64()))
			checkAt(t, l, x, int(r.Uint64()))
		}
	}
}

// P12.2: the dates at whose end there has been a leap second.
func TestPublished(t *testing.T) {
	l := made(t, published())
	longer := map[int]bool{}
	for _, date := range []string{
		"1972-06-30", "1972-12-31", "1973-12-31", "1974-12-31", "1975-12-31", "1976-12-31", "1977-12-31", "1978-12-31", "1979-12-31",
		"1981-06-30", "1982-06-30", "1983-06-30", "1985-06-30", "1987-12-31", "1989-12-31", "1990-12-31", "1992-06-30", "1993-06-30",
		"1994-06-30", "1995-12-31", "1997-06-30", "1998-12-31", "2005-12-31", "2008-12-31", "2012-06-30", "2015-06-30", "2016-12-31",
	} {
		d, err := time.Parse(time.DateOnly, date)
		if err != nil {
			t.Fatal(err)
		}
		longer[int(d.Unix()/daySeconds)+40587] = true
	}
	off := 10
	for day := 41317; day < 70000; day++ {
		length := daySeconds
		if longer[day] {
			length++
		}
		if n, e := l.Offset(day); n != off || e != api.OK {
			t.Fatalf("Offset(%d) = %d, %d; want %d", day, n, e, off)
		}
		if n, e := l.Length(day); n != length || e != api.OK {
			t.Fatalf("Length(%d) = %d, %d; want %d", day, n, e, length)
		}
		off += length - daySeconds
	}
	if off != 37 {
		t.Errorf("%d seconds at last", off)
	}
}

// P12.2, P12.3, P1: day by day, each begins where the one ahead of it ends, and its seconds are told with its offset.
func TestDaysFollow(t *testing.T) {
	for _, x := range []api.Table{both(), rising(fullTable, 1), rising(10, 3), waving(0, 0), waving(latest-(fullTable-1)*daySeconds, 999), table(0, 5, daySeconds, 4, 3*daySeconds, 3)} {
		l := made(t, x)
		begin := beginning(x.Entries[0])
		for day := l.First(); day < dayOf(x.Entries[len(x.Entries)-1])+5; day++ {
			off, _ := l.Offset(day)
			length, _ := l.Length(day)
			if day*daySeconds+off != begin {
				t.Fatalf("%v: day %d has offset %d, but begins with %d", x, day, off, begin)
			}
			for _, s := range []int{begin, begin + 1, begin + daySeconds/2, begin + length - 1} {
				if n, until, e := l.At(s); n != off || until <= day || e != api.OK {
					t.Fatalf("%v: At(%d) = %d, %d, %d; want %d, a day behind %d", x, s, n, until, e, off, day)
				}
			}
			begin += length
		}
	}
}

// P12.1: tables that may not be.
func TestRefused(t *testing.T) {
	long := rising(fullTable+1, 1)
	for _, x := range []api.Table{
		{}, {Entries: []api.Entry{}}, table(), long, rising(1001, 1),
		{Updated: -1, Entries: example().Entries}, {Expires: -1, Entries: example().Entries},
		{Updated: lastStamp + 1, Entries: example().Entries}, {Expires: lastStamp + 1, Entries: example().Entries},
		{Updated: math.MinInt, Expires: math.MaxInt, Entries: example().Entries},
		table(-daySeconds, 5), table(-1, 5), table(1, 5), table(daySeconds-1, 5), table(latest+daySeconds, 5), table(1<<50, 5), table(math.MinInt, 5), table(math.MaxInt, 5),
		table(0, -1), table(0, 1001), table(0, math.MinInt), table(0, math.MaxInt),
		table(0, 5, 0, 6), table(daySeconds, 5, 0, 6), table(0, 5, daySeconds, 5), table(0, 5, daySeconds, 7), table(0, 5, daySeconds, 3), table(0, 5, daySeconds, 6, 2*daySeconds, 6),
		table(0, 0, daySeconds, -1), table(0, 1000, daySeconds, 1001), table(0, 5, math.MaxInt, 6),
	} {
		if l, e := leaps.New(x); l != nil || e != api.ErrTable {
			t.Errorf("New(%v): %v, %d; want nil, ErrTable", x, l, e)
		}
	}
	for _, x := range []api.Table{{Updated: lastStamp, Expires: lastStamp, Entries: example().Entries}, {Entries: example().Entries}} {
		if l := made(t, x); !same(l.Table(), x) {
			t.Errorf("Table() = %v; want %v", l.Table(), x)
		}
	}
}

// P12.4: each of the four counts as one, refused or not; nothing else counts, nor does what another one is asked.
func TestAsked(t *testing.T) {
	l, other := made(t, both()), made(t, both())
	for n, call := range []struct {
		name string
		call func()
		by   int
	}{
		{"nothing", func() {}, 0},
		{"Asked", func() { l.Asked() }, 0},
		{"Table", func() { l.Table() }, 0},
		{"First", func() { l.First() }, 0},
		{"New", func() { leaps.New(l.Table()) }, 0},
		{"another", func() { other.Offset(41317); other.Change(1); other.Length(1); other.At(1) }, 0},
		{"Offset", func() { l.Offset(41317) }, 1},
		{"Offset at a leap second", func() { l.Offset(41498) }, 1},
		{"Offset, early", func() { l.Offset(41316) }, 1},
		{"Offset, least", func() { l.Offset(math.MinInt) }, 1},
		{"Offset, greatest", func() { l.Offset(math.MaxInt) }, 1},
		{"Change", func() { l.Change(41498) }, 1},
		{"Change, none", func() { l.Change(41499) }, 1},
		{"Change, early", func() { l.Change(math.MinInt) }, 1},
		{"Length", func() { l.Length(41317) }, 1},
		{"Length at a leap second", func() { l.Length(41498) }, 1},
		{"Length at a negative one", func() { l.Length(41503) }, 1},
		{"Length, early", func() { l.Length(41316) }, 1},
		{"At", func() { l.At(41499 * daySeconds) }, 1},
		{"At, early", func() { l.At(0) }, 1},
		{"At, greatest", func() { l.At(math.MaxInt) }, 1},
		{"all", func() {
			l.Offset(0)
			l.Change(0)
			l.Length(0)
			l.At(0)
			l.First()
			l.Table()
		}, 4},
		{"the same again", func() { l.Length(41498); l.Length(41498); l.Length(41498) }, 3},
	} {
		ahead := l.Asked()
		call.call()
		if by := l.Asked() - ahead; by != call.by {
			t.Errorf("call %d, %s: %d more are counted; want %d", n, call.name, by, call.by)
		}
	}
	if n := other.Asked(); n != 4 {
		t.Errorf("another one: %d, want 4", n)
	}
	for n := range 1000 {
		other.Change(n)
	}
	if n := other.Asked(); n != 1004 {
		t.Errorf("another one, again: %d, want 1004", n)
	}
}

// P12.5: no leap seconds at all.
func TestNil(t *testing.T) {
	var l *leaps.Leaps
	for range 2 {
		for _, n := range []int{math.MinInt, -1, 0, 1, 41316, 41317, 41498, 41498 * daySeconds, nothing - 1, nothing, math.MaxInt} {
			checkNone(t, l, n)
		}
		if n := l.Asked(); n != 0 {
			t.Errorf("Asked() = %d; want 0", n)
		}
	}
}

// R1: leap seconds that New did not make know no table, but count.
func TestUnmade(t *testing.T) {
	l := new(leaps.Leaps)
	checkNone(t, l, 0)
	checkNone(t, l, math.MinInt)
	checkNone(t, l, math.MaxInt)
	if n := l.Asked(); n != 12 {
		t.Errorf("Asked() = %d; want 12", n)
	}
}

// checkNone tells that l, without a table, knows nothing of day or second n.
func checkNone(t *testing.T, l *leaps.Leaps, n int) {
	t.Helper()
	if off, e := l.Offset(n); off != 0 || e != api.ErrNoTable {
		t.Errorf("Offset(%d) = %d, %d; want ErrNoTable", n, off, e)
	}
	if length, e := l.Length(n); length != 0 || e != api.ErrNoTable {
		t.Errorf("Length(%d) = %d, %d; want ErrNoTable", n, length, e)
	}
	if off, until, e := l.At(n); off != 0 || until != 0 || e != api.ErrNoTable {
		t.Errorf("At(%d) = %d, %d, %d; want ErrNoTable", n, off, until, e)
	}
	if change := l.Change(n); change != 0 {
		t.Errorf("Change(%d) = %d; want 0", n, change)
	}
	if x := l.Table(); !same(x, api.Table{}) || l.First() != 0 {
		t.Errorf("Table %v, First %d; want nothing", x, l.First())
	}
}

// spoil changes all of a list, and what room there is behind it.
func spoil(list []api.Entry) {
	list = list[:cap(list)]
	for n := range list {
		list[n] = api.Entry{At: -1, Off: -1}
	}
}

// R4: what is handed in stays as it is, spare room included, and may be changed, ahead of the first question or behind it; so may what is answered.
func TestStays(t *testing.T) {
	for _, asked := range []bool{false, true} {
		room := rising(fullTable, 1).Entries
		before := slices.Clone(room)
		given := api.Table{Updated: 1, Expires: 2, Entries: room[:3]}
		l := made(t, given)
		if asked {
			checkDay(t, l, rising(3, 1), century+1)
		}
		l.Table()
		if !slices.Equal(room, before) {
			t.Errorf("what was handed in is changed, or what is behind it")
		}
		spoil(given.Entries)
		want := api.Table{Updated: 1, Expires: 2, Entries: rising(3, 1).Entries}
		x, y := l.Table(), l.Table()
		spoil(x.Entries)
		if !same(y, want) || !same(l.Table(), want) {
			t.Errorf("asked ahead: %v: an answer, or an argument, that is changed changes another answer: %v, %v", asked, y, l.Table())
		}
		for day := century - 1; day < century+5; day++ {
			checkDay(t, l, want, day)
			checkAt(t, l, want, day*daySeconds+2)
		}
		if l.First() != century {
			t.Errorf("First() = %d", l.First())
		}
	}
}

// R5, P6: the same asked again, others between, has the same answers.
func TestAgain(t *testing.T) {
	x, y := both(), waving(0, 7)
	l, m := made(t, x), made(t, y)
	for range 3 {
		for _, n := range []int{math.MaxInt, 41498, 41503, 41316, century, century + 1, math.MinInt} {
			checkDay(t, l, x, n)
			checkDay(t, m, y, n)
			checkAt(t, l, x, n*daySeconds)
			checkAt(t, m, y, n*daySeconds)
		}
		if _, e := leaps.New(table(1, 1)); e != api.ErrTable {
			t.Errorf("a table that may not be: %d", e)
		}
	}
}

// P12.4, R5: many ask at once, from the first question on; none is lost, and each has its answer.
func TestAtOnce(t *testing.T) {
	const askers, times = 16, 200
	for range 20 {
		l := made(t, both())
		var all sync.WaitGroup
		faults := make([]string, askers)
		for n := range askers {
			all.Go(func() {
				for range times {
					off, e := l.Offset(41499)
					length, f := l.Length(41498)
					late, until, g := l.At(41504*daySeconds + 9)
					got := [...]int{off, int(e), length, int(f), late, until, int(g), l.Change(41503), l.First()}
					if got != [...]int{11, 0, 86401, 0, 11, 41504, 0, -1, 41317} {
						faults[n] = fmt.Sprint(got)
					}
				}
			})
		}
		all.Wait()
		for _, fault := range faults {
			if fault != "" {
				t.Error(fault)
			}
		}
		if n := l.Asked(); n != 4*askers*times {
			t.Errorf("Asked() = %d; want %d", n, 4*askers*times)
		}
	}
}
