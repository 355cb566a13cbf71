package unix_test

import (
	"fmt"
	"math"
	"math/big"
	"math/rand/v2"
	"slices"
	"sync"
	"testing"

	"epact/api"
	"epact/clock"
	"epact/unix"
)

// The numbers that the chapters name, written out.
const (
	daySeconds = 86400
	lastAtto   = 999999999999999999
	lastDay    = 1099511627776 // and -lastDay is the first one
	zeroDay    = 40587
	century    = 15020      // January 1, 1900
	ntpSeconds = 2208988800 // from then to Unix time's zero
	latest     = 1125899906774400
	lastStamp  = 999999999999999999
	fullTable  = 64
	oldDay     = 41317
	oldAt      = 2272060800 // the beginning of that day, since 1900
	oldOff     = 10
)

var (
	least = api.Wide{Hi: math.MinInt64}
	most  = api.Wide{Hi: math.MaxInt64, Lo: math.MaxUint64}
)

// picks are the two that there are, and others.
var picks = []int{0, 1, 2, 3, 4, 7, -1, -2, 1<<32 + 1, 1<<32 + 2, math.MaxInt, math.MinInt, math.MinInt + 1, math.MinInt + 2}

// noSecs are seconds that no label has.
var noSecs = []int{-1, -2, -86400, 86401, 86402, 2 * 86400, 1 << 32, -1 << 32, math.MaxInt, math.MinInt, math.MinInt + 1}

// noAttos are attoseconds that no label has.
var noAttos = []int{-1, -2, -lastAtto, lastAtto + 1, lastAtto + 2, 2 * lastAtto, math.MaxInt, math.MinInt}

// noDays are days out of range; times 86400 some would come into it again, if they wrapped.
var noDays = []int{
	lastDay + 1, lastDay + 2, 2 * lastDay, -lastDay - 1, -lastDay - 2, -2 * lastDay, 1 << 57, -1 << 57, 1<<57 + 41317, 1<<57 + zeroDay, 1<<62 + 41317, 1 << 62, -1 << 62,
	math.MaxInt / daySeconds, math.MaxInt/daySeconds + 1, math.MinInt/daySeconds - 1, math.MaxInt - 1, math.MaxInt, math.MinInt, math.MinInt + 1,
}

// stepDays are the days with which the published rates begin.
var stepDays = []int{37300, 37512, 37665, 38334, 38395, 38486, 38639, 38761, 38820, 38942, 39004, 39126, 39887, 41317}

// table answers a table of entries At, Off, At, Off, .. that ends with expires.
func table(expires int, numbers ...int) api.Table {
	x := api.Table{Updated: 5, Expires: expires}
	for n := 0; n < len(numbers); n += 2 {
		x.Entries = append(x.Entries, api.Entry{At: numbers[n], Off: numbers[n+1]})
	}
	return x
}

// both answers an old table with a leap second, and a negative one: days 41498 and 41503.
func both(expires int) api.Table {
	return table(expires, oldAt, 10, 2287785600, 11, 2287785600+5*daySeconds, 10)
}

// late answers one that is not old, with a negative leap second, and a leap second: days 41498 and 41503.
func late(expires int) api.Table {
	return table(expires, oldAt, 11, 2287785600, 10, 2287785600+5*daySeconds, 11)
}

// waving answers a full table whose Off goes to and fro at the end of each day.
func waving(expires, at, off int) api.Table {
	x := table(expires)
	for n := range fullTable {
		x.Entries = append(x.Entries, api.Entry{At: at + n*daySeconds, Off: off + n%2})
	}
	return x
}

// published answers the entries that have been published till now.
func published(expires int) api.Table {
	x := table(expires)
	for n, at := range []int{
		2272060800, 2287785600, 2303683200, 2335219200, 2366755200, 2398291200, 2429913600, 2461449600, 2492985600, 2524521600,
		2571782400, 2603318400, 2634854400, 2698012800, 2776982400, 2840140800, 2871676800, 2918937600, 2950473600, 2982009600,
		3029443200, 3076704000, 3124137600, 3345062400, 3439756800, 3550089600, 3644697600, 3692217600,
	} {
		x.Entries = append(x.Entries, api.Entry{At: at, Off: n + 10})
	}
	return x
}

// tables answers tables at the edges of what one may be, old or not, with every kind of end.
func tables() []api.Table {
	return []api.Table{
		both(lastStamp), both(0), both(2287785600), late(lastStamp), late(0), late(2287785601), published(3960057600), table(0, oldAt, oldOff), table(lastStamp, oldAt, 9),
		table(5, 0, 0), table(0, 0, 0, daySeconds, 1), table(lastStamp, 0, 1, daySeconds, 0), table(0, latest, 1000), table(0, latest-daySeconds, 1000, latest, 999),
		table(0, latest-daySeconds, 999, latest, 1000), waving(0, oldAt, oldOff), waving(lastStamp, oldAt, 9), waving(0, 0, 0), waving(lastStamp, latest-(fullTable-1)*daySeconds, 999),
		table(0, ntpSeconds, 5), table(0, ntpSeconds-daySeconds, 5, ntpSeconds, 6), table(0, ntpSeconds-daySeconds, 5, ntpSeconds, 4),
	}
}

// made answers the clock of x, which may be.
func made(t *testing.T, x api.Table) *clock.Clock {
	t.Helper()
	c, e := clock.New(x)
	if c == nil || e != api.OK {
		t.Fatalf("New(%v): %v, %d; want OK", x, c, e)
	}
	return c
}

func bigOf(a api.Wide) *big.Int {
	n := big.NewInt(a.Hi)
	n.Lsh(n, 64)
	return n.Add(n, new(big.Int).SetUint64(a.Lo))
}

// wideOf answers n, which fits.
func wideOf(n *big.Int) api.Wide {
	lo := new(big.Int).And(n, new(big.Int).SetUint64(math.MaxUint64))
	return api.Wide{Hi: new(big.Int).Rsh(n, 64).Int64(), Lo: lo.Uint64()}
}

func fits(n *big.Int) bool {
	return n.Cmp(bigOf(least)) >= 0 && n.Cmp(bigOf(most)) <= 0
}

// bigText answers the number whose text s is.
func bigText(s string) *big.Int {
	n, ok := new(big.Int).SetString(s, 10)
	if !ok {
		panic(s)
	}
	return n
}

// counted answers so many days, seconds and attoseconds as attoseconds.
func counted(days, seconds, atto int) *big.Int {
	n := new(big.Int).Mul(big.NewInt(int64(days)), big.NewInt(daySeconds))
	n.Add(n, big.NewInt(int64(seconds)))
	n.Mul(n, big.NewInt(lastAtto+1))
	return n.Add(n, big.NewInt(int64(atto)))
}

// unixOf answers the Unix time of a day, a second and an attosecond, whatever they are.
func unixOf(day, sec, atto int) *big.Int {
	return new(big.Int).Sub(counted(day, sec, atto), counted(zeroDay, 0, 0))
}

// plus answers n and by.
func plus(n *big.Int, by int) *big.Int {
	return new(big.Int).Add(n, big.NewInt(int64(by)))
}

// wantCount says the chapter's P17.1 once more, in big numbers.
func wantCount(x api.Label) (api.Wide, api.Errno) {
	switch {
	case x.Sec < 0, x.Sec > daySeconds, x.Atto < 0, x.Atto > lastAtto:
		return api.Wide{}, api.ErrArg
	case x.Day < -lastDay, x.Day > lastDay:
		return api.Wide{}, api.ErrOver
	}
	return wideOf(unixOf(x.Day, x.Sec, x.Atto)), api.OK
}

// wantLabels says P17.2 once more: it goes through all days about n, and takes what the clock knows of. It answers the labels in their order.
func wantLabels(c *clock.Clock, n *big.Int) ([]api.Label, api.Errno) {
	if c == nil {
		return nil, api.ErrNoTable
	}
	rest, atto := new(big.Int).DivMod(n, big.NewInt(lastAtto+1), new(big.Int))
	days, sec := new(big.Int).DivMod(rest, big.NewInt(daySeconds), new(big.Int))
	days.Add(days, big.NewInt(zeroDay))
	if !days.IsInt64() || days.Int64() < -lastDay || days.Int64() > lastDay {
		return nil, api.ErrOver
	}
	plain := api.Label{Day: int(days.Int64()), Sec: int(sec.Int64()), Atto: int(atto.Int64())}
	found := []api.Label{}
	for by := -3; by <= 3; by++ {
		x := api.Label{Day: plain.Day + by, Sec: plain.Sec - by*daySeconds, Atto: plain.Atto}
		if x.Sec >= 0 && x.Sec <= daySeconds && c.Exists(x) {
			found = append(found, x)
		}
	}
	if len(found) == 0 {
		_, e := c.Tai(plain, true)
		return nil, e
	}
	return found, api.OK
}

// wantFind says P17.3 once more, of the labels that n has.
func wantFind(found []api.Label, e api.Errno, pick int) (api.Label, api.Errno) {
	switch {
	case e != api.OK:
		return api.Label{}, e
	case len(found) == 1:
		return found[0], api.OK
	case pick == 1 || pick == 2:
		return found[pick-1], api.OK
	}
	return api.Label{}, api.ErrTwice
}

// checkCount holds a label's Unix time against the chapter.
func checkCount(t *testing.T, x api.Label) api.Errno {
	t.Helper()
	want, e := wantCount(x)
	if n, f := unix.Count(x); n != want || f != e {
		t.Fatalf("Count(%v) = %s, %d; want %s, %d", x, bigOf(n), f, bigOf(want), e)
	}
	return e
}

// checkLabels holds the labels of n, and each pick of them, against the chapter, and their Unix times against n. It answers how many there are, and the error.
func checkLabels(t *testing.T, c *clock.Clock, n *big.Int) (int, api.Errno) {
	t.Helper()
	if !fits(n) {
		return 0, api.ErrOver
	}
	found, e := wantLabels(c, n)
	first, last := api.Label{}, api.Label{}
	if len(found) > 0 {
		first, last = found[0], found[len(found)-1]
	}
	early, late, k, f := unix.Labels(c, wideOf(n))
	if early != first || late != last || k != len(found) || f != e {
		t.Fatalf("Labels(%s) = %v, %v, %d, %d; want %v, %d", n, early, late, k, f, found, e)
	}
	for _, x := range found {
		if back, g := unix.Count(x); back != wideOf(n) || g != api.OK {
			t.Fatalf("Count(%v) = %s, %d; want %s", x, bigOf(back), g, n)
		}
	}
	for _, pick := range picks {
		want, e := wantFind(found, e, pick)
		if x, g := unix.Find(c, wideOf(n), pick); x != want || g != e {
			t.Fatalf("Find(%s, %d) = %v, %d; want %v, %d", n, pick, x, g, want, e)
		}
	}
	return k, f
}

// checkLabel holds a label against the chapter, both ways: one that is there is a label of its Unix time.
func checkLabel(t *testing.T, c *clock.Clock, x api.Label) (int, api.Errno) {
	t.Helper()
	if e := checkCount(t, x); e != api.OK {
		return 0, e
	}
	n := unixOf(x.Day, x.Sec, x.Atto)
	if early, late, k, e := unix.Labels(c, wideOf(n)); c.Exists(x) && (k == 0 || e != api.OK || early != x && late != x) {
		t.Fatalf("%v is there; Labels(%s) = %v, %v, %d, %d", x, n, early, late, k, e)
	}
	return checkLabels(t, c, n)
}

// checkErrors tells whether each of those errors came up, and no other.
func checkErrors(t *testing.T, seen map[api.Errno]int, want ...api.Errno) {
	t.Helper()
	if len(seen) != len(want) {
		t.Errorf("errors %v; want just %v", seen, want)
	}
	for _, e := range want {
		if seen[e] == 0 {
			t.Errorf("error %d never came up: %v", e, seen)
		}
	}
}

// P17.2: the chapter's example. P17.3: what is picked of its two.
func TestExample(t *testing.T) {
	c := made(t, published(lastStamp))
	n, e := unix.Count(api.Label{Day: 41499, Atto: 5})
	if e != api.OK || bigOf(n).String() != "78796800000000000000000005" {
		t.Fatalf("Count = %s, %d", bigOf(n), e)
	}
	first, second := api.Label{Day: 41498, Sec: 86400, Atto: 5}, api.Label{Day: 41499, Atto: 5}
	if early, late, k, e := unix.Labels(c, n); early != first || late != second || k != 2 || e != api.OK {
		t.Errorf("Labels = %v, %v, %d, %d", early, late, k, e)
	}
	for pick, want := range map[int]api.Label{1: first, 2: second} {
		if x, e := unix.Find(c, n, pick); x != want || e != api.OK {
			t.Errorf("Find(%d) = %v, %d", pick, x, e)
		}
	}
	for _, pick := range []int{0, 3, -1, math.MaxInt, math.MinInt} {
		if x, e := unix.Find(c, n, pick); x != (api.Label{}) || e != api.ErrTwice {
			t.Errorf("Find(%d) = %v, %d; want ErrTwice", pick, x, e)
		}
	}
}

// P17.1: labels whose Unix times are known, as texts; a leap second has that of the second behind it.
func TestKnown(t *testing.T) {
	for x, want := range map[api.Label]string{
		{Day: zeroDay}:                                 "0",
		{Day: zeroDay, Atto: 1}:                        "1",
		{Day: zeroDay, Sec: 1}:                         "1000000000000000000",
		{Day: zeroDay - 1, Sec: 86399, Atto: lastAtto}: "-1",
		{Day: zeroDay - 1, Sec: 86400}:                 "0",
		{Day: zeroDay - 1, Sec: 86400, Atto: lastAtto}: "999999999999999999",
		{Day: zeroDay - 1}:                             "-86400000000000000000000",
		{}:                                             "-3506716800000000000000000000",
		{Day: century}:                                 "-2208988800000000000000000000",
		{Day: 41317}:                                   "63072000000000000000000000",
		{Day: 41498, Sec: 86399}:                       "78796799000000000000000000",
		{Day: 41498, Sec: 86400}:                       "78796800000000000000000000",
		{Day: 41499}:                                   "78796800000000000000000000",
		{Day: 41499, Sec: 86400}:                       "78883200000000000000000000",
		{Day: 51544}:                                   "946684800000000000000000000",
		{Day: 52161, Sec: 6400}:                        "1000000000000000000000000000",
		{Day: 57753, Sec: 86400, Atto: 500000000000000000}: "1483228800500000000000000000",
		{Day: 65442, Sec: 11647, Atto: lastAtto}:           "2147483647999999999999999999",
		{Day: lastDay, Sec: 86399, Atto: lastAtto}:         "94997801133215999999999999999999999",
		{Day: lastDay, Sec: 86400, Atto: lastAtto}:         "94997801133216000999999999999999999",
		{Day: -lastDay}: "-94997808146563200000000000000000000",
		{Day: -lastDay, Sec: 86400, Atto: lastAtto}: "-94997808146476799000000000000000001",
	} {
		if n, e := unix.Count(x); bigOf(n).String() != want || e != api.OK {
			t.Errorf("Count(%v) = %s, %d; want %s", x, bigOf(n), e, want)
		}
	}
}

// P17.1: the edges of a label, on days at the edges of the range and beside them.
func TestCountEdges(t *testing.T) {
	seen := map[api.Errno]int{}
	for _, day := range append([]int{-lastDay, -lastDay + 1, -1, 0, 1, century, zeroDay - 1, zeroDay, zeroDay + 1, 41498, lastDay - 1, lastDay}, noDays...) {
		for _, sec := range append([]int{0, 1, 43200, 86398, 86399, 86400}, noSecs...) {
			for _, atto := range append([]int{0, 1, lastAtto - 1, lastAtto}, noAttos...) {
				seen[checkCount(t, api.Label{Day: day, Sec: sec, Atto: atto})]++
			}
		}
	}
	checkErrors(t, seen, api.OK, api.ErrArg, api.ErrOver)
}

// P17.1, R2: what is none of a label is ErrArg, on days out of range too, where all others are ErrOver.
func TestCountErrors(t *testing.T) {
	for _, day := range append([]int{0, 41498, lastDay, -lastDay}, noDays...) {
		for _, x := range []api.Label{{Day: day, Sec: -1}, {Day: day, Sec: 86401}, {Day: day, Atto: -1}, {Day: day, Sec: 86400, Atto: -1}, {Day: day, Atto: lastAtto + 1}, {Day: day, Sec: 86400, Atto: lastAtto + 1}, {Day: day, Sec: math.MinInt, Atto: math.MaxInt}} {
			if n, e := unix.Count(x); n != (api.Wide{}) || e != api.ErrArg {
				t.Errorf("Count(%v) = %v, %d; want ErrArg", x, n, e)
			}
		}
	}
	for _, day := range noDays {
		for _, x := range []api.Label{{Day: day}, {Day: day, Sec: 86399}, {Day: day, Sec: 86400, Atto: lastAtto}} {
			if n, e := unix.Count(x); n != (api.Wide{}) || e != api.ErrOver {
				t.Errorf("Count(%v) = %v, %d; want ErrOver", x, n, e)
			}
		}
	}
}

// checkTwo tells that a Unix time has two labels: x with Sec 86400, and the next day's beginning.
func checkTwo(t *testing.T, c *clock.Clock, x api.Label) {
	t.Helper()
	next := api.Label{Day: x.Day + 1, Atto: x.Atto}
	n := wideOf(unixOf(x.Day, x.Sec, x.Atto))
	if early, late, k, e := unix.Labels(c, n); early != x || late != next || k != 2 || e != api.OK {
		t.Errorf("Labels(%s) = %v, %v, %d, %d; want %v and the next", bigOf(n), early, late, k, e, x)
	}
	for pick, want := range map[int]api.Label{1: x, 2: next} {
		if got, e := unix.Find(c, n, pick); got != want || e != api.OK {
			t.Errorf("Find(%s, %d) = %v, %d; want %v", bigOf(n), pick, got, e, want)
		}
	}
	if got, e := unix.Find(c, n, 0); got != (api.Label{}) || e != api.ErrTwice {
		t.Errorf("Find(%s, 0) = %v, %d; want ErrTwice", bigOf(n), got, e)
	}
}

// checkOne tells that a Unix time has x alone, which is a plain label, whatever is picked.
func checkOne(t *testing.T, c *clock.Clock, x api.Label) {
	t.Helper()
	n := wideOf(unixOf(x.Day, x.Sec, x.Atto))
	if early, late, k, e := unix.Labels(c, n); early != x || late != x || k != 1 || e != api.OK {
		t.Errorf("Labels(%s) = %v, %v, %d, %d; want %v alone", bigOf(n), early, late, k, e, x)
	}
	for _, pick := range picks {
		if got, e := unix.Find(c, n, pick); got != x || e != api.OK {
			t.Errorf("Find(%s, %d) = %v, %d; want %v", bigOf(n), pick, got, e, x)
		}
	}
}

// checkNone tells that a Unix time has no label, since of x, its plain one, want is told.
func checkNone(t *testing.T, c *clock.Clock, x api.Label, want api.Errno) {
	t.Helper()
	n := wideOf(unixOf(x.Day, x.Sec, x.Atto))
	if early, late, k, e := unix.Labels(c, n); early != (api.Label{}) || late != (api.Label{}) || k != 0 || e != want {
		t.Errorf("Labels(%s) = %v, %v, %d, %d; want none, %d", bigOf(n), early, late, k, e, want)
	}
	for _, pick := range picks {
		if got, e := unix.Find(c, n, pick); got != (api.Label{}) || e != want {
			t.Errorf("Find(%s, %d) = %v, %d; want %d", bigOf(n), pick, got, e, want)
		}
	}
}

// P17.2, P17.3, P1: at a leap second there are two, at a negative one none, up to the last attosecond; beside them there is one.
func TestLeapSeconds(t *testing.T) {
	for _, x := range []struct {
		table          api.Table
		leap, negative int
	}{{both(lastStamp), 41498, 41503}, {late(lastStamp), 41503, 41498}, {both(0), 41498, 41503}, {late(0), 41503, 41498}} {
		c := made(t, x.table)
		for _, atto := range []int{0, 1, 500000000000000000, lastAtto - 1, lastAtto} {
			checkOne(t, c, api.Label{Day: x.leap, Sec: 86398, Atto: atto})
			checkOne(t, c, api.Label{Day: x.leap, Sec: 86399, Atto: atto})
			checkTwo(t, c, api.Label{Day: x.leap, Sec: 86400, Atto: atto})
			checkOne(t, c, api.Label{Day: x.leap + 1, Sec: 1, Atto: atto})
			checkOne(t, c, api.Label{Day: x.negative, Sec: 86398, Atto: atto})
			checkNone(t, c, api.Label{Day: x.negative, Sec: 86399, Atto: atto}, api.ErrNone)
			checkOne(t, c, api.Label{Day: x.negative + 1, Atto: atto})
			checkOne(t, c, api.Label{Day: 41501, Atto: atto})
		}
	}
}

// P17.2, P17.3: where the rates stepped, a part of a second is there twice, or is left out.
func TestSteps(t *testing.T) {
	c := made(t, both(0))
	// At 37512 Tai's lead fell by 0.05 seconds, at 38334 it rose by 0.1; seconds of the rates are a little longer than those of TAI.
	checkOne(t, c, api.Label{Day: 37511, Sec: 86399, Atto: 950000000000000000})
	checkOne(t, c, api.Label{Day: 37511, Sec: 86399, Atto: 950000000700000000})
	checkNone(t, c, api.Label{Day: 37511, Sec: 86399, Atto: 950000000800000000}, api.ErrNone)
	checkNone(t, c, api.Label{Day: 37511, Sec: 86399, Atto: lastAtto}, api.ErrNone)
	checkOne(t, c, api.Label{Day: 37512})
	checkOne(t, c, api.Label{Day: 38333, Sec: 86399, Atto: lastAtto})
	checkTwo(t, c, api.Label{Day: 38333, Sec: 86400})
	checkTwo(t, c, api.Label{Day: 38333, Sec: 86400, Atto: 99999998000000000})
	checkOne(t, c, api.Label{Day: 38334, Atto: 99999999000000000})
	checkOne(t, c, api.Label{Day: 38334, Atto: 500000000000000000})
	checkTwo(t, c, api.Label{Day: 41316, Sec: 86400})
	checkTwo(t, c, api.Label{Day: 41316, Sec: 86400, Atto: 107757000000000000})
	checkOne(t, c, api.Label{Day: 41317, Atto: 107759000000000000})
	// There was none where only the rate changed, nor at the beginning of all.
	checkOne(t, c, api.Label{Day: 37665})
	checkOne(t, c, api.Label{Day: 39126})
	checkOne(t, c, api.Label{Day: 37300})
}

// P17.2, P17.3: ahead of all that is known a Unix time has no label, and the clock's ErrEarly; the first day's beginning has one.
func TestEarly(t *testing.T) {
	for _, x := range []struct {
		table api.Table
		first int
	}{
		{both(0), 37300}, {late(0), 41317}, {table(lastStamp, 0, 0), century}, {table(0, 0, 0, daySeconds, 1), century}, {table(0, latest, 5), 13031263941},
		{table(0, ntpSeconds, 5), zeroDay}, {waving(0, oldAt-daySeconds, 9), 41316},
	} {
		c := made(t, x.table)
		for _, atto := range []int{0, 1, lastAtto} {
			for _, day := range []int{x.first - 1, x.first - 2, x.first - 1000, -1, -lastDay, -lastDay + 1} {
				if day >= x.first {
					continue
				}
				for _, sec := range []int{0, 1, 86399} {
					checkNone(t, c, api.Label{Day: day, Sec: sec, Atto: atto}, api.ErrEarly)
				}
			}
			checkOne(t, c, api.Label{Day: x.first, Atto: atto})
			checkOne(t, c, api.Label{Day: x.first, Sec: 1, Atto: atto})
		}
	}
}

// P17.2, P17.3: behind its end a table's labels are still there.
func TestExpired(t *testing.T) {
	for _, expires := range []int{0, oldAt, 2287785599, 2287785600, 2287785601, 3960057600, lastStamp} {
		for _, x := range []api.Table{both(expires), late(expires), published(expires)} {
			c := made(t, x)
			for _, day := range []int{41320, 60000, 60841, 100000, lastDay - 1, lastDay} {
				checkOne(t, c, api.Label{Day: day})
				checkOne(t, c, api.Label{Day: day, Sec: 86399, Atto: lastAtto})
			}
		}
		checkTwo(t, made(t, both(expires)), api.Label{Day: 41498, Sec: 86400, Atto: 3})
		checkNone(t, made(t, both(expires)), api.Label{Day: 41503, Sec: 86399, Atto: 3}, api.ErrNone)
	}
}

// P17.2, P17.3: the first and the last Unix time of a day in range, those beside them, and a Wide's ends.
func TestRange(t *testing.T) {
	first, last := bigText("-94997808146563200000000000000000000"), bigText("94997801133215999999999999999999999")
	for _, x := range tables() {
		c := made(t, x)
		for by := range 3 {
			if k, e := checkLabels(t, c, plus(first, by)); k != 0 || e != api.ErrEarly {
				t.Errorf("%v: the first day: %d, %d", x, k, e)
			}
			if k, e := checkLabels(t, c, plus(last, -by)); k != 1 || e != api.OK {
				t.Errorf("%v: the last day: %d, %d", x, k, e)
			}
			for _, n := range []*big.Int{
				plus(first, -1-by), plus(last, 1+by), plus(bigOf(least), by), plus(bigOf(most), -by), plus(new(big.Int).Sub(bigOf(most), counted(zeroDay, 0, 0)), by-1),
				plus(new(big.Int).Add(last, counted(0, 1, 0)), by), new(big.Int).Lsh(first, 1), new(big.Int).Lsh(last, 1),
			} {
				if k, e := checkLabels(t, c, n); k != 0 || e != api.ErrOver {
					t.Errorf("%v: Labels(%s): %d, %d; want ErrOver", x, n, k, e)
				}
			}
		}
	}
}

// everySize answers numbers of all of a Wide's sizes.
func everySize() []*big.Int {
	all := []*big.Int{bigOf(least), bigOf(most)}
	for i := range uint(127) {
		n := new(big.Int).Lsh(big.NewInt(1), i)
		for by := -1; by <= 1; by++ {
			all = append(all, plus(n, by), plus(new(big.Int).Neg(n), by))
		}
	}
	return all
}

// P17.2, P17.3, R1, R2: a nil clock has no labels, even out of range; one that New did not make knows of none in range.
func TestNoClock(t *testing.T) {
	for _, n := range everySize() {
		if k, e := checkLabels(t, nil, n); k != 0 || e != api.ErrNoTable {
			t.Errorf("Labels(nil, %s): %d, %d; want ErrNoTable", n, k, e)
		}
		want := api.ErrNoTable
		if n.Cmp(unixOf(-lastDay, 0, 0)) < 0 || n.Cmp(unixOf(lastDay+1, 0, 0)) >= 0 {
			want = api.ErrOver
		}
		if k, e := checkLabels(t, new(clock.Clock), n); k != 0 || e != want {
			t.Errorf("a clock that is not made: Labels(%s): %d, %d; want %d", n, k, e, want)
		}
	}
}

// P17.2, P17.3: Unix times of all of a Wide's sizes.
func TestEverywhere(t *testing.T) {
	seen := map[api.Errno]int{}
	for _, x := range tables() {
		c := made(t, x)
		for _, n := range everySize() {
			_, e := checkLabels(t, c, n)
			seen[e]++
		}
	}
	checkErrors(t, seen, api.OK, api.ErrOver, api.ErrEarly, api.ErrNone)
}

// dayOf works out the day of an entry.
func dayOf(entry api.Entry) int {
	return century + entry.At/daySeconds
}

// P17.1, P17.2, P17.3: tables at the edges of what one may be, with labels at the edges of their entries, of the rates, and of days.
func TestTables(t *testing.T) {
	seen, counts := map[api.Errno]int{}, map[int]int{}
	for _, x := range tables() {
		c := made(t, x)
		days := slices.Concat(stepDays, []int{century, zeroDay, -lastDay + 1, 0, lastDay - 1})
		for _, entry := range x.Entries {
			days = append(days, dayOf(entry))
		}
		for _, day := range days {
			for by := -2; by <= 1; by++ {
				for _, sec := range []int{0, 1, 43200, 86398, 86399, 86400} {
					for _, atto := range []int{0, 5, lastAtto} {
						k, e := checkLabel(t, c, api.Label{Day: day + by, Sec: sec, Atto: atto})
						seen[e]++
						counts[k]++
					}
				}
			}
		}
	}
	checkErrors(t, seen, api.OK, api.ErrEarly, api.ErrNone, api.ErrOver)
	if len(counts) != 3 || counts[0] == 0 || counts[1] == 0 || counts[2] == 0 {
		t.Errorf("so many Unix times had so many labels: %v", counts)
	}
}

// P1: day by day, Unix time has two labels at each leap second, none at each negative one, and else one.
func TestDayByDay(t *testing.T) {
	for _, x := range []api.Table{published(0), late(lastStamp), waving(0, oldAt, oldOff)} {
		c := made(t, x)
		changes := map[int]int{}
		for n, entry := range x.Entries[1:] {
			changes[dayOf(entry)-1] = entry.Off - x.Entries[n].Off
		}
		for day := 41318; day < 58000; day++ {
			last, next := api.Label{Day: day, Sec: 86399, Atto: day}, api.Label{Day: day + 1, Atto: day}
			if changes[day] < 0 {
				checkNone(t, c, last, api.ErrNone)
			} else {
				checkOne(t, c, last)
			}
			if changes[day] > 0 {
				checkTwo(t, c, api.Label{Day: day, Sec: 86400, Atto: day})
			} else {
				checkOne(t, c, next)
			}
		}
	}
}

// drawn answers a table that may be, of any count of entries; each second one is old.
func drawn(r *rand.Rand) api.Table {
	at, off := r.IntN(100), r.IntN(1001)
	if r.IntN(2) == 0 {
		at, off = oldAt/daySeconds, oldOff
	}
	x := table(r.IntN(lastStamp+1) >> r.IntN(64))
	for range 1 + r.IntN(fullTable) {
		x.Entries = append(x.Entries, api.Entry{At: at * daySeconds, Off: off})
		at += 1 + r.IntN(1<<r.IntN(26))
		if off == 0 || off < 1000 && r.IntN(2) == 0 {
			off++
		} else {
			off--
		}
	}
	return x
}

// P17.1, P17.2, P17.3: tables, labels and Unix times with a fixed seed.
func TestDrawn(t *testing.T) {
	r := rand.New(rand.NewPCG(17, 1))
	counts := map[int]int{}
	for range 100 {
		x := drawn(r)
		c := made(t, x)
		for _, entry := range x.Entries {
			for range 5 {
				day, sec := dayOf(entry)+r.IntN(7)-3, []int{r.IntN(daySeconds), daySeconds - r.IntN(4), r.IntN(2)}[r.IntN(3)]
				k, _ := checkLabel(t, c, api.Label{Day: day, Sec: sec, Atto: r.IntN(lastAtto + 1)})
				counts[k]++
			}
		}
		for range 100 {
			checkLabel(t, c, api.Label{Day: stepDays[r.IntN(len(stepDays))] - r.IntN(2), Sec: []int{0, 86399, 86400}[r.IntN(3)], Atto: r.IntN(lastAtto + 1)})
			checkLabel(t, c, api.Label{Day: r.IntN(2*lastDay+2) - lastDay - 1, Sec: r.IntN(daySeconds + 1), Atto: r.IntN(lastAtto + 1)})
			checkLabel(t, c, api.Label{Day: int(r.Uint64()), Sec: int(r.Uint64()) >> r.IntN(64), Atto: int(r.Uint64()) >> r.IntN(64)})
			checkLabels(t, c, new(big.Int).Rsh(bigOf(api.Wide{Hi: int64(r.Uint64()), Lo: r.Uint64()}), uint(r.IntN(127))))
		}
	}
	if counts[0] < 50 || counts[1] < 50 || counts[2] < 50 {
		t.Errorf("so many Unix times had so many labels: %v", counts)
	}
}

// checkNtp holds both ways between Unix and NTP time, of a number that fits, against the chapter.
func checkNtp(t *testing.T, n *big.Int, seen map[api.Errno]int) {
	t.Helper()
	if !fits(n) {
		return
	}
	zero := bigText("2208988800000000000000000000")
	for i, want := range []*big.Int{new(big.Int).Add(n, zero), new(big.Int).Sub(n, zero)} {
		there, back := unix.Ntp, unix.FromNtp
		if i == 1 {
			there, back = back, there
		}
		got, e := there(wideOf(n))
		seen[e]++
		if !fits(want) {
			if got != (api.Wide{}) || e != api.ErrOver {
				t.Errorf("%s, way %d: %v, %d; want ErrOver", n, i, got, e)
			}
			continue
		}
		if got != wideOf(want) || e != api.OK {
			t.Errorf("%s, way %d: %s, %d; want %s", n, i, bigOf(got), e, want)
		}
		if again, e := back(got); again != wideOf(n) || e != api.OK {
			t.Errorf("%s, way %d and back: %s, %d", n, i, bigOf(again), e)
		}
	}
}

// P17.4: times that are known.
func TestNtpKnown(t *testing.T) {
	for unixText, ntpText := range map[string]string{
		"0":                             "2208988800000000000000000000",
		"-1":                            "2208988799999999999999999999",
		"-2208988800000000000000000000": "0",
		"-2208988800000000000000000001": "-1",
		"78796800000000000000000005":    "2287785600000000000000000005",
		"2085978496000000000000000000":  "4294967296000000000000000000",
	} {
		u, n := wideOf(bigText(unixText)), wideOf(bigText(ntpText))
		if got, e := unix.Ntp(u); got != n || e != api.OK {
			t.Errorf("Ntp(%s) = %s, %d; want %s", unixText, bigOf(got), e, ntpText)
		}
		if got, e := unix.FromNtp(n); got != u || e != api.OK {
			t.Errorf("FromNtp(%s) = %s, %d; want %s", ntpText, bigOf(got), e, unixText)
		}
	}
}

// P17.4: numbers of all of a Wide's sizes; those of no day in range, too; ErrOver just where the sum, or what is left, does not fit.
func TestNtpEverywhere(t *testing.T) {
	seen := map[api.Errno]int{}
	zero := counted(0, ntpSeconds, 0)
	for _, n := range everySize() {
		checkNtp(t, n, seen)
	}
	for by := -3; by <= 3; by++ {
		for _, edge := range []*big.Int{bigOf(least), bigOf(most), unixOf(-lastDay, 0, 0), unixOf(lastDay+1, 0, 0), counted(-lastDay, 0, 0), counted(lastDay+1, 0, 0), new(big.Int)} {
			checkNtp(t, plus(edge, by), seen)
			checkNtp(t, plus(new(big.Int).Add(edge, zero), by), seen)
			checkNtp(t, plus(new(big.Int).Sub(edge, zero), by), seen)
		}
	}
	r := rand.New(rand.NewPCG(17, 2))
	for range 5000 {
		checkNtp(t, new(big.Int).Rsh(bigOf(api.Wide{Hi: int64(r.Uint64()), Lo: r.Uint64()}), uint(r.IntN(127))), seen)
	}
	checkErrors(t, seen, api.OK, api.ErrOver)
}

// R5, P6: the same asked again, refused calls and other clocks between, has the same answers.
func TestAgain(t *testing.T) {
	clocks := []*clock.Clock{made(t, both(0)), nil, made(t, late(lastStamp)), made(t, published(0)), new(clock.Clock)}
	for range 3 {
		for _, day := range []int{41498, 41499, 41503, 41316, 37511, 37299, century, lastDay, lastDay + 1, -lastDay - 1} {
			for _, sec := range []int{86400, 86399, 0, -1} {
				for _, c := range clocks {
					checkCount(t, api.Label{Day: day, Sec: sec, Atto: 3})
					checkLabels(t, c, unixOf(day, sec, 3))
				}
			}
		}
	}
}

// R5: many ask one clock at once, from the first question on, and each has its answer.
func TestAtOnce(t *testing.T) {
	leap, next := api.Label{Day: 41498, Sec: 86400, Atto: 7}, api.Label{Day: 41499, Atto: 7}
	n, none := wideOf(unixOf(41499, 0, 7)), wideOf(unixOf(41503, 86399, 7))
	for range 20 {
		c := made(t, both(0))
		var together sync.WaitGroup
		faults := make([]string, 16)
		for i := range faults {
			together.Go(func() {
				for range 20 {
					early, late, k, e := unix.Labels(c, n)
					x, f := unix.Find(c, n, 1)
					_, g := unix.Find(c, none, 0)
					count, h := unix.Count(leap)
					if early != leap || late != next || k != 2 || x != leap || count != n || e != api.OK || f != api.OK || g != api.ErrNone || h != api.OK {
						faults[i] = fmt.Sprint(early, late, k, e, x, f, g, count, h)
					}
				}
			})
		}
		together.Wait()
		for _, fault := range faults {
			if fault != "" {
				t.Error(fault)
			}
		}
	}
}
