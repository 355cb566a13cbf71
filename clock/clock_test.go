package clock_test

import (
	"fmt"
	"math"
	"math/big"
	"math/rand/v2"
	"slices"
	"sync"
	"testing"

	"epact/api"
	"epact/clock"
	"epact/leaps"
)

// The numbers that the chapters name, written out.
const (
	daySeconds = 86400
	lastAtto   = 999999999999999999
	lastDay    = 1099511627776 // and -lastDay is the first one
	century    = 15020         // January 1, 1900
	latest     = 1125899906774400
	lastStamp  = 999999999999999999
	fullTable  = 64
	oldDay     = 41317
	oldAt      = 2272060800 // the beginning of that day, since 1900
	oldOff     = 10
	unit       = 100000000000 // attoseconds
)

var (
	least = api.Wide{Hi: math.MinInt64}
	most  = api.Wide{Hi: math.MaxInt64, Lo: math.MaxUint64}
	one   = big.NewInt(1)
)

// secs are seconds that a label may have, and the next ones beside them.
var secs = []int{-1, 0, 1, 43200, 86398, 86399, 86400, 86401}

// noSecs are seconds that no label has.
var noSecs = []int{-1, -2, -86400, 86401, 86402, 2 * 86400, 1 << 32, -1 << 32, math.MaxInt, math.MinInt}

// noAttos are attoseconds that no label has.
var noAttos = []int{-1, -2, -lastAtto, lastAtto + 1, lastAtto + 2, 2 * lastAtto, math.MaxInt, math.MinInt}

// noDays are days out of range; times 86400 some would come into it again, if they wrapped.
var noDays = []int{
	lastDay + 1, lastDay + 2, 2 * lastDay, -lastDay - 1, -lastDay - 2, -2 * lastDay, 1 << 57, -1 << 57, 1<<57 + 41317, 1<<57 + 37300, 1<<62 + 41317, 1 << 62, -1 << 62,
	math.MaxInt / daySeconds, math.MaxInt/daySeconds + 1, math.MinInt/daySeconds - 1, math.MaxInt - 1, math.MaxInt, math.MinInt, math.MinInt + 1,
}

// rate is a segment of the time ahead of 1972, up to the day ahead of which the next one begins.
type rate struct{ day, base, from, rate, until int }

// rates answers the published ones.
func rates() []rate {
	return []rate{
		{37300, 14228180, 37300, 12960, 37512}, {37512, 13728180, 37300, 12960, 37665}, {37665, 18458580, 37665, 11232, 38334},
		{38334, 19458580, 37665, 11232, 38395}, {38395, 32401300, 38761, 12960, 38486}, {38486, 33401300, 38761, 12960, 38639},
		{38639, 34401300, 38761, 12960, 38761}, {38761, 35401300, 38761, 12960, 38820}, {38820, 36401300, 38761, 12960, 38942},
		{38942, 37401300, 38761, 12960, 39004}, {39004, 38401300, 38761, 12960, 39126}, {39126, 43131700, 39126, 25920, 39887},
		{39887, 42131700, 39126, 25920, 41317},
	}
}

// table answers a table of entries At, Off, At, Off, .. that ends with expires.
func table(expires int, numbers ...int) api.Table {
	x := api.Table{Updated: 5, Expires: expires}
	for n := 0; n < len(numbers); n += 2 {
		x.Entries = append(x.Entries, api.Entry{At: numbers[n], Off: numbers[n+1]})
	}
	return x
}

// stamp answers the moment, as tables count it, of a day's second.
func stamp(day, sec int) int {
	return (day-century)*daySeconds + sec
}

// both answers an old table with a leap second, and a negative one.
func both(expires int) api.Table {
	return table(expires, oldAt, 10, 2287785600, 11, 2287785600+5*daySeconds, 10)
}

// late answers one that is not old, since TAI is 11 seconds ahead.
func late(expires int) api.Table {
	return table(expires, oldAt, 11, 2287785600, 10, 2287785600+5*daySeconds, 11)
}

// waving answers a full table whose Off goes to and fro at the end of each day.
func waving(expires, at, off int) api.Table {
	x := table(expires)
	for n := range fullTable {
		x.Entries = append(x.Entries, api.Entry{At: at + n*daySeconds, Off: off + n%2})
	}
	return x
}

// published answers the entries that have been published till now.
func published(expires int) api.Table {
	x := table(expires)
	for n, at := range []int{
		2272060800, 2287785600, 2303683200, 2335219200, 2366755200, 2398291200, 2429913600, 2461449600, 2492985600, 2524521600,
		2571782400, 2603318400, 2634854400, 2698012800, 2776982400, 2840140800, 2871676800, 2918937600, 2950473600, 2982009600,
		3029443200, 3076704000, 3124137600, 3345062400, 3439756800, 3550089600, 3644697600, 3692217600,
	} {
		x.Entries = append(x.Entries, api.Entry{At: at, Off: n + 10})
	}
	return x
}

// oldTables answers tables of old clocks, of every kind of end.
func oldTables() []api.Table {
	return []api.Table{
		table(lastStamp, oldAt, oldOff), table(0, oldAt, oldOff), table(stamp(oldDay, 0), oldAt, oldOff), table(stamp(oldDay, 0)-1, oldAt, oldOff),
		table(stamp(oldDay, 1), oldAt, oldOff, oldAt+daySeconds, 11), table(stamp(oldDay+1, 0), oldAt, oldOff, oldAt+daySeconds, 9),
		table(stamp(37300, 0), oldAt, oldOff, latest, 11), table(stamp(37300, 1), oldAt, oldOff, latest, 9), table(stamp(37300, 0)-1, oldAt, oldOff),
		table(stamp(37665, 0), oldAt, oldOff), table(stamp(38334, 1), oldAt, oldOff), table(stamp(39126, 43200), oldAt, oldOff), table(stamp(lastDay, 86399), oldAt, oldOff),
		table(stamp(lastDay, 86400), oldAt, oldOff), both(stamp(41498, 86399)), both(stamp(41498, 86400)), both(stamp(41503, 86398)), both(stamp(41504, 0)),
		both(stamp(41504, 1)), both(lastStamp), published(3960057600), waving(stamp(oldDay+30, 86399), oldAt, oldOff),
	}
}

// newTables answers tables of clocks that are not old.
func newTables() []api.Table {
	return []api.Table{
		late(lastStamp), late(stamp(41498, 86399)), late(stamp(41499, 0)), late(0), table(lastStamp, oldAt, 9), table(lastStamp, oldAt, 0), table(lastStamp, oldAt, 1000),
		table(lastStamp, oldAt-daySeconds, 10), table(lastStamp, oldAt+daySeconds, 10), table(lastStamp, 0, 10), table(lastStamp, latest, 10),
		table(lastStamp, oldAt-daySeconds, 9, oldAt, 10), table(lastStamp, oldAt-daySeconds, 11, oldAt, 10), table(stamp(oldDay, 0), 0, 11, oldAt, 10),
		waving(lastStamp, oldAt-daySeconds, 9), waving(stamp(oldDay, 86400), oldAt-daySeconds, 10), waving(lastStamp, latest-(fullTable-1)*daySeconds, 999),
		table(0, 0, 0), table(1, 0, 0), table(daySeconds, 0, 0, daySeconds, 1), table(daySeconds-1, 0, 1, daySeconds, 0),
	}
}

// noTables answers tables that may not be: most of them would be old.
func noTables() []api.Table {
	long := waving(lastStamp, oldAt, 10)
	long.Entries = append(long.Entries, api.Entry{At: oldAt + fullTable*daySeconds, Off: 10})
	early, far := both(lastStamp), both(lastStamp)
	early.Updated, far.Updated = -1, lastStamp+1
	return []api.Table{
		{}, {Entries: []api.Entry{}}, table(5), long, early, far, both(-1), both(lastStamp + 1), both(math.MaxInt), both(math.MinInt),
		table(7, oldAt+1, 10), table(7, oldAt-1, 10), table(7, -daySeconds, 10), table(7, latest+daySeconds, 10), table(7, oldAt, -1), table(7, oldAt, 1001),
		table(7, oldAt, 10, oldAt, 11), table(7, oldAt, 10, oldAt-daySeconds, 11), table(7, oldAt, 10, oldAt+daySeconds, 10), table(7, oldAt, 10, oldAt+daySeconds, 12),
		table(7, oldAt, 10, oldAt+daySeconds, 8), table(7, oldAt, 10, oldAt+daySeconds+1, 11), table(7, math.MaxInt, 10), table(7, math.MinInt, 10), table(7, oldAt, math.MaxInt),
	}
}

// made answers the clock of x, which may be.
func made(t *testing.T, x api.Table) *clock.Clock {
	t.Helper()
	c, e := clock.New(x)
	if c == nil || e != api.OK {
		t.Fatalf("New(%v): %v, %d; want OK", x, c, e)
	}
	return c
}

func bigOf(a api.Wide) *big.Int {
	n := big.NewInt(a.Hi)
	n.Lsh(n, 64)
	return n.Add(n, new(big.Int).SetUint64(a.Lo))
}

// wideOf answers n, which fits.
func wideOf(n *big.Int) api.Wide {
	lo := new(big.Int).And(n, new(big.Int).SetUint64(math.MaxUint64))
	return api.Wide{Hi: new(big.Int).Rsh(n, 64).Int64(), Lo: lo.Uint64()}
}

// counted answers so many seconds and attoseconds as attoseconds.
func counted(seconds, atto int) *big.Int {
	n := new(big.Int).Mul(big.NewInt(int64(seconds)), big.NewInt(lastAtto+1))
	return n.Add(n, big.NewInt(int64(atto)))
}

// plus answers n and by.
func plus(n *big.Int, by int) *big.Int {
	return new(big.Int).Add(n, big.NewInt(int64(by)))
}

// isOld tells whether x is the table of an old clock.
func isOld(x api.Table) bool {
	return x.Entries[0] == api.Entry{At: oldAt, Off: oldOff}
}

// isExpired tells whether x ends at a label or ahead of it.
func isExpired(x api.Table, label api.Label) bool {
	moment := new(big.Int).Mul(big.NewInt(int64(label.Day-century)), big.NewInt(daySeconds))
	return plus(moment, label.Sec).Cmp(big.NewInt(int64(x.Expires))) >= 0
}

// instant works out what r says of count u, as one fraction, rounded down at last.
func (r rate) instant(u *big.Int) *big.Int {
	length := counted(daySeconds, 0)
	n := new(big.Int).Sub(u, counted(r.from*daySeconds, 0))
	n.Mul(n, big.NewInt(int64(r.rate)))
	n.Add(n, new(big.Int).Mul(big.NewInt(int64(r.base)), length))
	n.Mul(n, big.NewInt(unit))
	n.Add(n, new(big.Int).Mul(u, length))
	q, _ := new(big.Int).DivMod(n, length, new(big.Int)) // DivMod rounds down, if what is divided by is above 0
	return q
}

// begin works out the instant at which r begins.
func (r rate) begin() *big.Int {
	return r.instant(counted(r.day*daySeconds, 0))
}

// end works out the instant at which r ends.
func (r rate) end() *big.Int {
	for _, next := range rates() {
		if next.day == r.until {
			return next.begin()
		}
	}
	return counted(oldDay*daySeconds+oldOff, 0)
}

// greatest looks for the greatest count whose instant is not above t, by halves: TAI is less than 20 seconds ahead.
func (r rate) greatest(t *big.Int) *big.Int {
	low, high := new(big.Int).Sub(t, counted(20, 0)), t
	for plus(low, 1).Cmp(high) < 0 {
		middle := new(big.Int).Add(low, high)
		middle.Rsh(middle, 1)
		if r.instant(middle).Cmp(t) <= 0 {
			low = middle
		} else {
			high = middle
		}
	}
	return low
}

// mayBe tells whether a label may be one.
func mayBe(label api.Label) bool {
	return label.Sec >= 0 && label.Sec <= daySeconds && label.Atto >= 0 && label.Atto <= lastAtto
}

// ratedTai works out the instant of a label whose day is ahead of 1972.
func ratedTai(label api.Label) (*big.Int, api.Errno) {
	if !mayBe(label) {
		return nil, api.ErrArg
	}
	for _, r := range rates() {
		if label.Day < r.day || label.Day >= r.until {
			continue
		}
		n := r.instant(counted(label.Day*daySeconds+label.Sec, label.Atto))
		if label.Sec == daySeconds && label.Day != r.until-1 || n.Cmp(r.end()) >= 0 {
			return nil, api.ErrNone
		}
		return n, api.OK
	}
	return nil, api.ErrEarly
}

// ratedLabel works out the label of an instant ahead of 1972.
func ratedLabel(n *big.Int) (api.Label, api.Errno) {
	for _, r := range slices.Backward(rates()) {
		if n.Cmp(r.begin()) < 0 {
			continue
		}
		seconds, atto := new(big.Int).DivMod(r.greatest(n), big.NewInt(lastAtto+1), new(big.Int))
		s := int(seconds.Int64())
		day := min(s/daySeconds, r.until-1)
		return api.Label{Day: day, Sec: s - day*daySeconds, Atto: int(atto.Int64())}, api.OK
	}
	return api.Label{}, api.ErrEarly
}

// dayOf works out the day of an entry.
func dayOf(entry api.Entry) int {
	return century + entry.At/daySeconds
}

// beginning works out the TAI second with which an entry begins.
func beginning(entry api.Entry) int {
	return dayOf(entry)*daySeconds + entry.Off
}

// wantDay works out, entry by entry, the offset and the length of a day that is not ahead of the first one.
func wantDay(x api.Table, day int) (off, length int) {
	length = daySeconds
	for n, entry := range x.Entries {
		if dayOf(entry) <= day {
			off = entry.Off
		}
		if n > 0 && dayOf(entry)-1 == day {
			length += entry.Off - x.Entries[n-1].Off
		}
	}
	return off, length
}

// leapTai works out the instant of a label by x's leap seconds.
func leapTai(x api.Table, label api.Label) (*big.Int, api.Errno) {
	if !mayBe(label) {
		return nil, api.ErrArg
	}
	if label.Day < -lastDay || label.Day > lastDay {
		return nil, api.ErrOver
	}
	if label.Day < dayOf(x.Entries[0]) {
		return nil, api.ErrEarly
	}
	off, length := wantDay(x, label.Day)
	if label.Sec >= length {
		return nil, api.ErrNone
	}
	return counted(label.Day*daySeconds+label.Sec+off, label.Atto), api.OK
}

// leapLabel works out the label of an instant by x's leap seconds: of all days about it, the last one that has such a second.
func leapLabel(x api.Table, n *big.Int) (api.Label, api.Errno) {
	if n.Cmp(counted(beginning(x.Entries[0]), 0)) < 0 {
		return api.Label{}, api.ErrEarly
	}
	seconds, atto := new(big.Int).DivMod(n, big.NewInt(lastAtto+1), new(big.Int))
	if seconds.Cmp(big.NewInt(2*lastDay*daySeconds)) > 0 {
		return api.Label{}, api.ErrOver
	}
	s := int(seconds.Int64())
	found := api.Label{}
	for day := max(s/daySeconds-2, dayOf(x.Entries[0])); day <= s/daySeconds+1; day++ {
		off, length := wantDay(x, day)
		if sec := s - off - day*daySeconds; sec >= 0 && sec < length {
			found = api.Label{Day: day, Sec: sec, Atto: int(atto.Int64())}
		}
	}
	if found.Day > lastDay {
		return api.Label{}, api.ErrOver
	}
	return found, api.OK
}

// wantTai works out the instant of a label.
func wantTai(x api.Table, label api.Label, lax bool) (api.Wide, api.Errno) {
	n, e := leapTai(x, label)
	if isOld(x) && label.Day < oldDay {
		n, e = ratedTai(label)
	}
	if e == api.OK && !lax && isExpired(x, label) {
		e = api.ErrExpired
	}
	if e != api.OK {
		return api.Wide{}, e
	}
	return wideOf(n), api.OK
}

// wantLabel works out the label of an instant.
func wantLabel(x api.Table, n *big.Int, lax bool) (api.Label, api.Errno) {
	label, e := leapLabel(x, n)
	if isOld(x) && n.Cmp(counted(oldDay*daySeconds+oldOff, 0)) < 0 {
		label, e = ratedLabel(n)
	}
	if e == api.OK && !lax && isExpired(x, label) {
		return api.Label{}, api.ErrExpired
	}
	return label, e
}

// checkTai holds what is told of a label against what it must be, and the label against that of its instant.
func checkTai(t *testing.T, c *clock.Clock, x api.Table, label api.Label) (strict, lax api.Errno) {
	t.Helper()
	errors := map[bool]api.Errno{}
	for _, loose := range []bool{false, true} {
		want, e := wantTai(x, label, loose)
		if got, gotE := c.Tai(label, loose); got != want || gotE != e {
			t.Fatalf("%v: Tai(%v, %t) = %s, %d; want %s, %d", x, label, loose, bigOf(got), gotE, bigOf(want), e)
		}
		if e == api.OK {
			if got, gotE := c.Label(want, loose); got != label || gotE != api.OK {
				t.Fatalf("%v: Label(%s, %t) = %v, %d; want %v", x, bigOf(want), loose, got, gotE, label)
			}
		}
		errors[loose] = e
	}
	if got := c.Exists(label); got != (errors[true] == api.OK) {
		t.Fatalf("%v: Exists(%v) = %t; the error of a lax Tai is %d", x, label, got, errors[true])
	}
	return errors[false], errors[true]
}

// checkLabel holds what is told of an instant that fits against what it must be.
func checkLabel(t *testing.T, c *clock.Clock, x api.Table, n *big.Int) (strict, lax api.Errno) {
	t.Helper()
	errors := map[bool]api.Errno{}
	for _, loose := range []bool{false, true} {
		want, e := wantLabel(x, n, loose)
		if got, gotE := c.Label(wideOf(n), loose); got != want || gotE != e {
			t.Fatalf("%v: Label(%s, %t) = %v, %d; want %v, %d", x, n, loose, got, gotE, want, e)
		}
		errors[loose] = e
	}
	return errors[false], errors[true]
}

// endOf answers the day and the second with which x ends.
func endOf(x api.Table) (day, sec int) {
	return century + x.Expires/daySeconds, x.Expires % daySeconds
}

// daysAbout answers days at the edges of x's entries, of its end, of the rates, of the range, and of an int.
func daysAbout(x api.Table) []int {
	end, _ := endOf(x)
	edges := []int{end, oldDay}
	for _, entry := range x.Entries {
		edges = append(edges, dayOf(entry))
	}
	for _, r := range rates() {
		edges = append(edges, r.day)
	}
	days := append([]int{-lastDay, -lastDay + 1, -1, 0, 1, century - 1, century, lastDay - 1, lastDay, 37400, 38000, 40000}, noDays...)
	for _, edge := range edges {
		days = append(days, edge-2, edge-1, edge, edge+1)
	}
	slices.Sort(days)
	return slices.Compact(days)
}

// instantsAbout answers instants at the edges of x's entries, of its end, of the rates, and of the range.
func instantsAbout(x api.Table) []*big.Int {
	edges := []*big.Int{new(big.Int), counted(-lastDay*daySeconds, 0), counted((lastDay+1)*daySeconds+x.Entries[len(x.Entries)-1].Off, 0)}
	for _, entry := range x.Entries {
		at := beginning(entry)
		edges = append(edges, counted(at, 0), counted(at-1, 0), counted(at+1, 0), counted(at-daySeconds, 0), counted(at+daySeconds/2, 5))
	}
	for _, r := range rates() {
		edges = append(edges, r.begin(), new(big.Int).Sub(r.begin(), counted(1, 0)), new(big.Int).Add(r.begin(), counted(1, 0)), new(big.Int).Add(r.begin(), counted(daySeconds/2, 5)))
	}
	day, sec := endOf(x)
	for by := -2; by <= 2; by++ {
		for _, label := range []api.Label{{Day: day, Sec: sec + by}, {Day: day - 1, Sec: daySeconds + sec + by}} {
			if n, e := wantTai(x, label, true); e == api.OK {
				edges = append(edges, bigOf(n))
			}
		}
	}
	about := []*big.Int{bigOf(least), plus(bigOf(least), 1), plus(bigOf(most), -1), bigOf(most)}
	for _, edge := range edges {
		for by := -2; by <= 2; by++ {
			about = append(about, plus(edge, by))
		}
	}
	return about
}

// checkAll holds all that is told by x, at its edges, against what it must be.
func checkAll(t *testing.T, x api.Table) map[api.Errno]int {
	t.Helper()
	c := made(t, x)
	_, sec := endOf(x)
	errors := map[api.Errno]int{}
	for _, day := range daysAbout(x) {
		for _, s := range append([]int{sec - 1, sec, sec + 1}, secs...) {
			for _, atto := range []int{-1, 0, 1, lastAtto, lastAtto + 1} {
				strict, lax := checkTai(t, c, x, api.Label{Day: day, Sec: s, Atto: atto})
				errors[strict]++
				errors[lax]++
			}
		}
	}
	for _, n := range instantsAbout(x) {
		checkLabel(t, c, x, n)
	}
	return errors
}

// P15.1, P15.2, P15.3: the chapter's example, and those of the whole that a clock tells.
func TestExample(t *testing.T) {
	c := made(t, table(3155673600, oldAt, 10, 2287785600, 11))
	for _, x := range []struct {
		label       api.Label
		strict, lax api.Errno
	}{
		{api.Label{Day: 51543, Sec: 86399}, api.OK, api.OK},
		{api.Label{Day: 51543, Sec: 86399, Atto: lastAtto}, api.OK, api.OK},
		{api.Label{Day: 51544}, api.ErrExpired, api.OK},
		{api.Label{Day: 51544, Atto: 1}, api.ErrExpired, api.OK},
		{api.Label{Day: 51543, Sec: 86400}, api.ErrNone, api.ErrNone},
		{api.Label{Day: 41498, Sec: 86400}, api.OK, api.OK},
		{api.Label{Day: 41497, Sec: 86400}, api.ErrNone, api.ErrNone},
		{api.Label{Day: 37300}, api.OK, api.OK},
		{api.Label{Day: 37299, Sec: 86399, Atto: lastAtto}, api.ErrEarly, api.ErrEarly},
	} {
		_, e := c.Tai(x.label, false)
		_, f := c.Tai(x.label, true)
		if e != x.strict || f != x.lax || c.Exists(x.label) != (x.lax == api.OK) {
			t.Errorf("Tai(%v): %d, lax %d, is there: %t; want %d, %d", x.label, e, f, c.Exists(x.label), x.strict, x.lax)
		}
	}
	if n, e := c.Tai(api.Label{Day: 37300}, false); n != wideOf(counted(37300*daySeconds+1, 422818000000000000)) || e != api.OK {
		t.Errorf("1961-01-01: %s, %d", bigOf(n), e)
	}
}

// P15.2, P15.3: instants, as texts.
func TestTexts(t *testing.T) {
	c := made(t, both(lastStamp))
	for label, want := range map[api.Label]string{
		{Day: 37300}:                                       "3222720001422818000000000000",
		{Day: 41316, Sec: 86399, Atto: lastAtto}:           "3569788809892241999999999998",
		{Day: 41316, Sec: 86400, Atto: 107757000000000000}: "3569788809999999003232710000",
		{Day: oldDay}:                                      "3569788810000000000000000000",
		{Day: oldDay, Atto: 1}:                             "3569788810000000000000000001",
		{Day: 41498, Sec: 86399, Atto: lastAtto}:           "3585513609999999999999999999",
		{Day: 41498, Sec: 86400}:                           "3585513610000000000000000000",
		{Day: 41499}:                                       "3585513611000000000000000000",
		{Day: 41503, Sec: 86398, Atto: lastAtto}:           "3585945609999999999999999999",
		{Day: 41504}:                                       "3585945610000000000000000000",
		{Day: lastDay, Sec: 86399, Atto: lastAtto}:         "94997804639932809999999999999999999",
		{Day: lastDay - 1, Sec: 86399, Atto: lastAtto}:     "94997804639846409999999999999999999",
	} {
		for _, lax := range []bool{false, true} {
			n, e := c.Tai(label, lax)
			if got := bigOf(n).String(); got != want || e != api.OK || !c.Exists(label) {
				t.Errorf("Tai(%v) = %s, %d; want %s", label, got, e, want)
			}
			if x, e := c.Label(n, lax); x != label || e != api.OK {
				t.Errorf("Label(%s) = %v, %d; want %v", want, x, e, label)
			}
		}
	}
}

// P15.1: a table that may not be has no clock.
func TestNoTables(t *testing.T) {
	for _, x := range noTables() {
		if c, e := clock.New(x); c != nil || e != api.ErrTable {
			t.Errorf("New(%v): %v, %d; want nil, ErrTable", x, c, e)
		}
	}
}

// P15.1: which clocks are old, and that each has its table's leap seconds.
func TestNew(t *testing.T) {
	for n, list := range [][]api.Table{newTables(), oldTables()} {
		for _, x := range list {
			c := made(t, x)
			if got := c.Old(); got != (n == 1) {
				t.Errorf("%v: Old() = %t", x, got)
			}
			l := c.Leaps()
			if got := l.Table(); l == nil || got.Updated != x.Updated || got.Expires != x.Expires || !slices.Equal(got.Entries, x.Entries) {
				t.Errorf("%v: the leap seconds' table is %v", x, got)
			}
			for _, entry := range x.Entries {
				want, _ := wantDay(x, dayOf(entry))
				if off, e := l.Offset(dayOf(entry)); off != want || e != api.OK || l.First() != dayOf(x.Entries[0]) {
					t.Errorf("%v: Offset(%d) = %d, %d; want %d", x, dayOf(entry), off, e, want)
				}
			}
		}
	}
}

// P15.2, P15.3: tables at the edges of what one may be, old or not, with every kind of end.
func TestTables(t *testing.T) {
	errors := map[api.Errno]int{}
	for _, x := range slices.Concat(oldTables(), newTables()) {
		for e, n := range checkAll(t, x) {
			errors[e] += n
		}
	}
	for _, e := range []api.Errno{api.OK, api.ErrArg, api.ErrOver, api.ErrEarly, api.ErrNone, api.ErrExpired} {
		if errors[e] == 0 {
			t.Errorf("errors %v, want some of %d", errors, e)
		}
	}
}

// drawn answers a table that may be, of any count of entries; each second one is old.
func drawn(r *rand.Rand) api.Table {
	at, off := r.IntN(100), r.IntN(1001)
	if r.IntN(2) == 0 {
		at, off = oldAt/daySeconds, oldOff
	}
	x := table(r.IntN(lastStamp+1) >> r.IntN(64))
	for range 1 + r.IntN(fullTable) {
		x.Entries = append(x.Entries, api.Entry{At: at * daySeconds, Off: off})
		at += 1 + r.IntN(1<<r.IntN(26))
		if off == 0 || off < 1000 && r.IntN(2) == 0 {
			off++
		} else {
			off--
		}
	}
	if r.IntN(2) == 0 {
		x.Expires = x.Entries[r.IntN(len(x.Entries))].At + r.IntN(3)
	}
	return x
}

// P15.2, P15.3: tables, labels and instants with a fixed seed.
func TestDrawn(t *testing.T) {
	r := rand.New(rand.NewPCG(15, 1))
	for range 100 {
		x := drawn(r)
		c := made(t, x)
		for _, entry := range x.Entries {
			for range 10 {
				day, sec := dayOf(entry)+r.IntN(7)-3, []int{r.IntN(daySeconds), daySeconds - r.IntN(4)}[r.IntN(2)]
				checkTai(t, c, x, api.Label{Day: day, Sec: sec, Atto: r.IntN(lastAtto + 1)})
				checkLabel(t, c, x, counted(beginning(entry)+r.IntN(9)-4, r.IntN(lastAtto+1)))
				checkLabel(t, c, x, counted(beginning(entry)+r.IntN(10*daySeconds)-5*daySeconds, r.IntN(lastAtto+1)))
			}
		}
		for range 100 {
			checkTai(t, c, x, api.Label{Day: 37290 + r.IntN(4100), Sec: r.IntN(daySeconds + 1), Atto: r.IntN(lastAtto + 1)})
			checkTai(t, c, x, api.Label{Day: r.IntN(2*lastDay+2) - lastDay - 1, Sec: r.IntN(daySeconds + 1), Atto: r.IntN(lastAtto + 1)})
			checkTai(t, c, x, api.Label{Day: int(r.Uint64()), Sec: int(r.Uint64()) >> r.IntN(64), Atto: int(r.Uint64()) >> r.IntN(64)})
			checkLabel(t, c, x, counted((37290+r.IntN(4100))*daySeconds+r.IntN(daySeconds), r.IntN(lastAtto+1)))
			checkLabel(t, c, x, new(big.Int).Rsh(bigOf(api.Wide{Hi: int64(r.Uint64()), Lo: r.Uint64()}), uint(r.IntN(127))))
		}
	}
}

// P15.2, P15.3: with every second about the ends of days as the table's end, ahead of 1972 too, just what is at it or behind it is expired.
func TestExpires(t *testing.T) {
	for _, day := range []int{37299, 37300, 37664, 38333, 40000, 41316, 41317, 41498, 41503, 50000, lastDay - 1, lastDay} {
		for sec := -2; sec <= 2; sec++ {
			for _, x := range []api.Table{both(stamp(day+1, sec)), late(stamp(day+1, sec))} {
				c := made(t, x)
				for _, label := range []api.Label{{Day: day, Sec: 86397}, {Day: day, Sec: 86398}, {Day: day, Sec: 86399}, {Day: day, Sec: 86400}, {Day: day + 1}, {Day: day + 1, Sec: 1}, {Day: day + 1, Sec: 2}, {Day: day + 2}} {
					for _, atto := range []int{0, 1, lastAtto} {
						label.Atto = atto
						checkTai(t, c, x, label)
						if n, e := wantTai(x, label, true); e == api.OK {
							checkLabel(t, c, x, bigOf(n))
						}
					}
				}
			}
		}
	}
}

// P15.2: with a leap second's first attosecond as the end, and with the one behind it: the same, since that second is counted as the next day's first one.
func TestExpiredLeapSecond(t *testing.T) {
	for _, x := range []struct {
		expires int
		label   api.Label
		e       api.Errno
	}{
		{stamp(41499, 0), api.Label{Day: 41498, Sec: 86399, Atto: lastAtto}, api.OK},
		{stamp(41499, 0), api.Label{Day: 41498, Sec: 86400}, api.ErrExpired},
		{stamp(41499, 0), api.Label{Day: 41499}, api.ErrExpired},
		{stamp(41499, 1), api.Label{Day: 41498, Sec: 86400, Atto: lastAtto}, api.OK},
		{stamp(41499, 1), api.Label{Day: 41499, Atto: lastAtto}, api.OK},
		{stamp(41499, 1), api.Label{Day: 41499, Sec: 1}, api.ErrExpired},
		{stamp(41317, 0), api.Label{Day: 41316, Sec: 86399}, api.OK},
		{stamp(41317, 0), api.Label{Day: 41316, Sec: 86400}, api.ErrExpired},
		{stamp(41317, 0), api.Label{Day: 41317}, api.ErrExpired},
		{0, api.Label{Day: 37300}, api.ErrExpired},
		{stamp(37300, 0), api.Label{Day: 37300}, api.ErrExpired},
		{stamp(37300, 1), api.Label{Day: 37300, Atto: lastAtto}, api.OK},
		{stamp(37300, 1), api.Label{Day: 37300, Sec: 1}, api.ErrExpired},
	} {
		c := made(t, both(x.expires))
		lax, f := c.Tai(x.label, true)
		n, e := c.Tai(x.label, false)
		if f != api.OK || e != x.e || e == api.OK && n != lax || e != api.OK && n != (api.Wide{}) {
			t.Errorf("end %d: Tai(%v): %v, %d; lax %v, %d; want %d", x.expires, x.label, n, e, lax, f, x.e)
		}
		want := api.Label{}
		if x.e == api.OK {
			want = x.label
		}
		if got, e := c.Label(lax, false); got != want || e != x.e {
			t.Errorf("end %d: Label(%v): %v, %d; want %v, %d", x.expires, lax, got, e, want, x.e)
		}
		if got, e := c.Label(lax, true); got != x.label || e != api.OK || !c.Exists(x.label) {
			t.Errorf("end %d: lax Label(%v): %v, %d; want %v", x.expires, lax, got, e, x.label)
		}
	}
}

// P15.2: ErrExpired comes behind all others; what is far ahead of all that is known is early to the rates, but out of range to leap seconds.
func TestWhichError(t *testing.T) {
	for _, x := range []struct {
		table      api.Table
		days, secs []int
		e          api.Errno
	}{
		{both(0), []int{37299, 0, -1, -lastDay, -lastDay - 1, -1 << 62, math.MinInt}, []int{0, 86399, 86400}, api.ErrEarly},
		{late(0), []int{41316, 37300, 37299, 0, -1, -lastDay}, []int{0, 86399, 86400}, api.ErrEarly},
		{late(0), []int{-lastDay - 1, -1 << 62, math.MinInt}, []int{0, 86399, 86400}, api.ErrOver},
		{both(0), []int{lastDay + 1, 1 << 62, math.MaxInt}, []int{0, 86399, 86400}, api.ErrOver},
		{late(0), []int{lastDay + 1, 1 << 62, math.MaxInt}, []int{0, 86399, 86400}, api.ErrOver},
		{both(0), []int{37300, 37400, 37664, 41315, 41317, 41497, 41499, lastDay}, []int{86400}, api.ErrNone},
		{both(0), []int{41503}, []int{86399, 86400}, api.ErrNone},
		{late(0), []int{41317, 41497, 41499, lastDay}, []int{86400}, api.ErrNone},
		{late(0), []int{41498}, []int{86399, 86400}, api.ErrNone},
		{both(0), []int{37300, 37400, 38333, 41316, 41317, 41498, lastDay}, []int{0, 86399}, api.ErrExpired},
		{late(0), []int{41317, 41497, 41499, 41503, lastDay}, []int{0, 86398}, api.ErrExpired},
	} {
		c := made(t, x.table)
		for _, day := range x.days {
			for _, sec := range x.secs {
				label := api.Label{Day: day, Sec: sec}
				want := x.e
				n, e := c.Tai(label, false)
				if e != want || n != (api.Wide{}) {
					t.Errorf("%v: Tai(%v) = %v, %d; want %d", x.table, label, n, e, want)
				}
				if want == api.ErrExpired {
					want = api.OK
				}
				if n, e := c.Tai(label, true); e != want || e != api.OK && n != (api.Wide{}) || c.Exists(label) != (e == api.OK) {
					t.Errorf("%v: lax Tai(%v) = %v, %d; want %d", x.table, label, n, e, want)
				}
			}
		}
	}
}

// P15.2: what may not be a label is ErrArg, whatever its day is.
func TestNoLabel(t *testing.T) {
	wrong := []api.Label{}
	for _, sec := range noSecs {
		wrong = append(wrong, api.Label{Sec: sec}, api.Label{Sec: sec, Atto: lastAtto}, api.Label{Sec: sec, Atto: -1})
	}
	for _, atto := range noAttos {
		wrong = append(wrong, api.Label{Atto: atto}, api.Label{Sec: 86400, Atto: atto})
	}
	for _, table := range []api.Table{both(0), both(lastStamp), late(0), late(lastStamp)} {
		c := made(t, table)
		for _, day := range append([]int{0, 37299, 37300, 41316, 41317, 41498, 41503, lastDay, -lastDay}, noDays...) {
			for _, x := range wrong {
				x.Day = day
				for _, lax := range []bool{false, true} {
					if n, e := c.Tai(x, lax); n != (api.Wide{}) || e != api.ErrArg || c.Exists(x) {
						t.Errorf("Tai(%v, %t) = %v, %d; want ErrArg", x, lax, n, e)
					}
				}
			}
		}
	}
}

// P15.3: which error an instant has, with a table that is over, and lax.
func TestWhichLabelError(t *testing.T) {
	first := counted(37300*daySeconds+1, 422818000000000000)
	begin, end := counted(oldDay*daySeconds+oldOff, 0), counted((lastDay+1)*daySeconds+oldOff, 0)
	for _, x := range []struct {
		table       api.Table
		n           *big.Int
		strict, lax api.Errno
	}{
		{both(0), bigOf(least), api.ErrEarly, api.ErrEarly},
		{both(0), new(big.Int), api.ErrEarly, api.ErrEarly},
		{both(0), plus(first, -1), api.ErrEarly, api.ErrEarly},
		{both(0), first, api.ErrExpired, api.OK},
		{both(0), plus(begin, -1), api.ErrExpired, api.OK},
		{both(0), begin, api.ErrExpired, api.OK},
		{both(0), plus(end, -1), api.ErrExpired, api.OK},
		{both(0), end, api.ErrOver, api.ErrOver},
		{both(0), bigOf(most), api.ErrOver, api.ErrOver},
		{late(0), first, api.ErrEarly, api.ErrEarly},
		{late(0), begin, api.ErrEarly, api.ErrEarly},
		{late(0), new(big.Int).Add(begin, counted(1, -1)), api.ErrEarly, api.ErrEarly},
		{late(0), new(big.Int).Add(begin, counted(1, 0)), api.ErrExpired, api.OK},
		{both(lastStamp), first, api.OK, api.OK},
		{both(lastStamp), plus(end, -1), api.OK, api.OK},
		{both(lastStamp), end, api.ErrOver, api.ErrOver},
		{both(stamp(lastDay, 86399)), plus(end, -1), api.ErrExpired, api.OK},
		{both(stamp(lastDay, 86400)), plus(end, -1), api.OK, api.OK},
	} {
		c := made(t, x.table)
		if got, e := c.Label(wideOf(x.n), false); e != x.strict || e != api.OK && got != (api.Label{}) {
			t.Errorf("%v: Label(%s) = %v, %d; want %d", x.table, x.n, got, e, x.strict)
		}
		if got, e := c.Label(wideOf(x.n), true); e != x.lax || e != api.OK && got != (api.Label{}) {
			t.Errorf("%v: lax Label(%s) = %v, %d; want %d", x.table, x.n, got, e, x.lax)
		}
	}
}

// P15.3: instants of all of a Wide's sizes.
func TestInstantsEverywhere(t *testing.T) {
	for _, x := range []api.Table{both(stamp(41498, 86400)), late(stamp(41498, 0)), table(lastStamp, 0, 0), table(0, latest, 1000)} {
		c := made(t, x)
		for i := range uint(127) {
			n := new(big.Int).Lsh(one, i)
			for by := -2; by <= 2; by++ {
				checkLabel(t, c, x, plus(n, by))
				checkLabel(t, c, x, plus(new(big.Int).Neg(n), by))
			}
		}
	}
}

// P15.2, P15.3, P1: from the rates to the leap seconds each instant has a label, a later one than the instant ahead of it, and none is left out.
func TestAcross(t *testing.T) {
	c := made(t, both(lastStamp))
	begin := counted(oldDay*daySeconds+oldOff, 0)
	ahead := api.Label{}
	for by := -1000; by <= 1000; by++ {
		n := plus(begin, by)
		x, e := c.Label(wideOf(n), false)
		want, _ := wantLabel(both(lastStamp), n, false)
		if x != want || e != api.OK {
			t.Fatalf("Label(%s) = %v, %d; want %v", n, x, e, want)
		}
		if x.Day < ahead.Day || x.Day == ahead.Day && (x.Sec < ahead.Sec || x.Sec == ahead.Sec && x.Atto < ahead.Atto) {
			t.Fatalf("Label(%s) = %v, ahead of %v", n, x, ahead)
		}
		back, f := c.Tai(x, false)
		if less := new(big.Int).Sub(n, bigOf(back)); f != api.OK || less.Sign() < 0 || less.Cmp(one) > 0 || by >= 0 && less.Sign() != 0 {
			t.Fatalf("Tai(%v) = %s, %d; want %s", x, bigOf(back), f, n)
		}
		ahead = x
	}
}

// P15.2, P1, P2: an old clock has each day's seconds, one behind the other, with those that were left out or put in at steps.
func TestLastSeconds(t *testing.T) {
	x := published(lastStamp)
	c := made(t, x)
	ahead := new(big.Int)
	for day := 37300; day < 60000; day++ {
		for _, sec := range []int{0, 86398, 86399, 86400} {
			label := api.Label{Day: day, Sec: sec}
			want, e := wantTai(x, label, false)
			n, f := c.Tai(label, false)
			if n != want || f != e {
				t.Fatalf("Tai(%v) = %s, %d; want %s, %d", label, bigOf(n), f, bigOf(want), e)
			}
			if e != api.OK {
				continue
			}
			if bigOf(n).Cmp(ahead) <= 0 {
				t.Fatalf("Tai(%v) = %s, not behind %s", label, bigOf(n), ahead)
			}
			ahead = bigOf(n)
		}
	}
}

// checkNone tells that c, without a table, knows neither a label's instant nor an instant's label.
func checkNone(t *testing.T, c *clock.Clock) {
	t.Helper()
	if c.Leaps() != nil || c.Old() {
		t.Errorf("leap seconds %v, old: %t", c.Leaps(), c.Old())
	}
	for _, lax := range []bool{false, true} {
		for _, x := range []api.Label{
			{}, {Day: 37300}, {Day: 41317}, {Day: 41498, Sec: 86400}, {Day: lastDay}, {Day: lastDay + 1}, {Day: -lastDay - 1}, {Sec: -1}, {Sec: 86401}, {Atto: -1}, {Atto: lastAtto + 1},
			{Day: math.MaxInt, Sec: math.MaxInt, Atto: math.MaxInt}, {Day: math.MinInt, Sec: math.MinInt, Atto: math.MinInt},
		} {
			if n, e := c.Tai(x, lax); n != (api.Wide{}) || e != api.ErrNoTable || c.Exists(x) {
				t.Errorf("Tai(%v, %t) = %v, %d; want ErrNoTable", x, lax, n, e)
			}
		}
		for _, n := range []api.Wide{{}, {Lo: 1}, {Hi: -1, Lo: math.MaxUint64}, wideOf(counted(38000*daySeconds, 0)), wideOf(counted(41400*daySeconds, 0)), {Hi: 1 << 62}, least, most} {
			if x, e := c.Label(n, lax); x != (api.Label{}) || e != api.ErrNoTable {
				t.Errorf("Label(%v, %t) = %v, %d; want ErrNoTable", n, lax, x, e)
			}
		}
	}
}

// P15.1, P15.2, P15.3, R1: a nil clock knows nothing, nor does one that New did not make.
func TestNil(t *testing.T) {
	checkNone(t, nil)
	checkNone(t, new(clock.Clock))
}

// R4: a clock keeps nothing of the table that is handed in, and changes none of it, nor of its spare room.
func TestKeepsNothing(t *testing.T) {
	room := make([]api.Entry, 5)
	for n := range room {
		room[n] = api.Entry{At: -n - 1, Off: -n - 1}
	}
	copy(room, both(0).Entries)
	want, x := both(stamp(41600, 0)), both(stamp(41600, 0))
	x.Entries = room[:3]
	c := made(t, x)
	checkSame := func() {
		t.Helper()
		for _, day := range []int{37300, 38333, 41316, 41317, 41498, 41499, 41503, 41504, 41599, 41600} {
			for _, sec := range secs {
				checkTai(t, c, want, api.Label{Day: day, Sec: sec, Atto: 9})
			}
		}
		if got := c.Leaps().Table(); !c.Old() || got.Expires != want.Expires || !slices.Equal(got.Entries, want.Entries) {
			t.Errorf("the table is %v; want %v", got, want)
		}
	}
	checkSame()
	if !slices.Equal(room, append(both(0).Entries, api.Entry{At: -4, Off: -4}, api.Entry{At: -5, Off: -5})) {
		t.Errorf("what was handed in is %v", room)
	}
	clear(room)
	x.Expires = 0
	checkSame()
	clear(c.Leaps().Table().Entries)
	checkSame()
}

// R5, R6, P6: the same asked again, other clocks and refused labels between, has the same answers.
func TestAgain(t *testing.T) {
	list := []api.Table{both(stamp(41499, 0)), late(stamp(41503, 5)), both(0), table(lastStamp, 0, 7, daySeconds, 8)}
	clocks := []*clock.Clock{}
	for _, x := range list {
		clocks = append(clocks, made(t, x))
	}
	for range 3 {
		for _, day := range []int{math.MaxInt, 41498, 41503, 41316, 37300, 37299, century, lastDay, math.MinInt} {
			for _, sec := range []int{86400, 86399, 0, -1} {
				for n, c := range clocks {
					checkTai(t, c, list[n], api.Label{Day: day, Sec: sec, Atto: 3})
				}
			}
		}
		for _, s := range []int{math.MaxInt, 41498*daySeconds + 86410, 41504*daySeconds + 10, 41316 * daySeconds, 37300 * daySeconds, century*daySeconds + 86407, math.MinInt, 0} {
			for n, c := range clocks {
				checkLabel(t, c, list[n], counted(s, 5))
			}
		}
		if clocks[0].Old() != true || clocks[1].Old() != false {
			t.Errorf("old: %t, %t", clocks[0].Old(), clocks[1].Old())
		}
	}
}

// R5: many ask at once, from the first question on, and each has its answer.
func TestAtOnce(t *testing.T) {
	const askers, times = 16, 50
	leap, instant := api.Label{Day: 41498, Sec: 86400, Atto: 7}, wideOf(counted(41498*daySeconds+86410, 7))
	begin := wideOf(counted(37300*daySeconds+1, 422818000000000000))
	for range 20 {
		c := made(t, both(stamp(41503, 0)))
		var all sync.WaitGroup
		faults := make([]string, askers)
		for n := range askers {
			all.Go(func() {
				for range times {
					got, e := c.Tai(leap, false)
					back, f := c.Label(instant, false)
					early, g := c.Tai(api.Label{Day: 37300}, false)
					_, h := c.Tai(api.Label{Day: 41503}, false)
					var l *leaps.Leaps = c.Leaps()
					if got != instant || back != leap || early != begin || e != api.OK || f != api.OK || g != api.OK || h != api.ErrExpired || l.First() != oldDay {
						faults[n] = fmt.Sprint(got, e, back, f, early, g, h)
					}
				}
			})
		}
		all.Wait()
		for _, fault := range faults {
			if fault != "" {
				t.Error(fault)
			}
		}
	}
}
