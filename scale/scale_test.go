package scale_test

import (
	"fmt"
	"math"
	"math/big"
	"math/rand/v2"
	"sync"
	"testing"

	"epact/api"
	"epact/scale"
)

// The numbers that the chapter names, written out.
const (
	tai = 1
	tt  = 2
	gps = 3
	ptp = 4

	daySeconds = 86400
	lastAtto   = 999999999999999999
	lastDay    = 1099511627776 // and -lastDay is the first one
)

var (
	least = api.Wide{Hi: math.MinInt64}
	most  = api.Wide{Hi: math.MaxInt64, Lo: math.MaxUint64}
)

// all are the scales that there are here.
var all = []int{tai, tt, gps, ptp}

// others are scales of other layers, and numbers that are no scale's.
var others = []int{
	0, 5, 6, 7, 8, 9, 10, 16, 255, 256, 257, 258, 259, 260, -1, -2, -3, -4, -5, 1<<16 + 1, 1<<32 + 1, 1<<32 + 2, 1<<32 + 3, 1<<32 + 4, 1<<63 - 1,
	math.MaxInt - 1, math.MinInt, math.MinInt + 1, math.MinInt + 2, math.MinInt + 3, math.MinInt + 4,
}

func bigOf(a api.Wide) *big.Int {
	n := big.NewInt(a.Hi)
	n.Lsh(n, 64)
	return n.Add(n, new(big.Int).SetUint64(a.Lo))
}

// wideOf answers n, which fits.
func wideOf(n *big.Int) api.Wide {
	lo := new(big.Int).And(n, new(big.Int).SetUint64(math.MaxUint64))
	return api.Wide{Hi: new(big.Int).Rsh(n, 64).Int64(), Lo: lo.Uint64()}
}

func fits(n *big.Int) bool {
	return n.Cmp(bigOf(least)) >= 0 && n.Cmp(bigOf(most)) <= 0
}

// bigText answers the number whose text s is.
func bigText(s string) *big.Int {
	n, ok := new(big.Int).SetString(s, 10)
	if !ok {
		panic(s)
	}
	return n
}

// counted answers so many days, seconds and attoseconds as attoseconds.
func counted(days, seconds, atto int) *big.Int {
	n := new(big.Int).Mul(big.NewInt(int64(days)), big.NewInt(daySeconds))
	n.Add(n, big.NewInt(int64(seconds)))
	n.Mul(n, big.NewInt(lastAtto+1))
	return n.Add(n, big.NewInt(int64(atto)))
}

// plus answers n and by.
func plus(n *big.Int, by int) *big.Int {
	return new(big.Int).Add(n, big.NewInt(int64(by)))
}

// zeroOf answers the instant from which a scale counts; nil, if it is none of these scales.
func zeroOf(n int) *big.Int {
	switch n {
	case tai:
		return bigText("3128025600000000000000000000")
	case tt:
		return bigText("4453444767816000000000000000")
	case gps:
		return bigText("3822681619000000000000000000")
	case ptp:
		return bigText("3506716800000000000000000000")
	}
	return nil
}

// ranged tells whether an instant is one of a day in range.
func ranged(t *big.Int) bool {
	return t.Cmp(bigText("-94997804639846400000000000000000000")) >= 0 && t.Cmp(bigText("94997804639932800000000000000000000")) < 0
}

// wantTo says the chapter's P16.1 once more, in big numbers.
func wantTo(n int, t *big.Int) (api.Wide, api.Errno) {
	zero := zeroOf(n)
	switch {
	case zero == nil:
		return api.Wide{}, api.ErrArg
	case !ranged(t):
		return api.Wide{}, api.ErrOver
	}
	return wideOf(new(big.Int).Sub(t, zero)), api.OK
}

// wantFrom says P16.2 once more.
func wantFrom(n int, count *big.Int) (api.Wide, api.Errno) {
	zero := zeroOf(n)
	if zero == nil {
		return api.Wide{}, api.ErrArg
	}
	t := new(big.Int).Add(count, zero)
	if !ranged(t) {
		return api.Wide{}, api.ErrOver
	}
	return wideOf(t), api.OK
}

// checkTo holds To of the instant t, which fits, against the chapter, and each count against the way back. It answers To's error.
func checkTo(t *testing.T, n int, instant *big.Int) api.Errno {
	t.Helper()
	want, e := wantTo(n, instant)
	got, f := scale.To(n, wideOf(instant))
	if got != want || f != e {
		t.Errorf("To(%d, %s) = %s, %d; want %s, %d", n, instant, bigOf(got), f, bigOf(want), e)
	}
	if f != api.OK {
		return e
	}
	if back, g := scale.From(n, got); back != wideOf(instant) || g != api.OK {
		t.Errorf("From(%d, To(%d, %s)) = %s, %d", n, n, instant, bigOf(back), g)
	}
	return e
}

// checkFrom holds From of a count, which fits, against the chapter, and each instant against the way back. It answers From's error.
func checkFrom(t *testing.T, n int, count *big.Int) api.Errno {
	t.Helper()
	want, e := wantFrom(n, count)
	got, f := scale.From(n, wideOf(count))
	if got != want || f != e {
		t.Errorf("From(%d, %s) = %s, %d; want %s, %d", n, count, bigOf(got), f, bigOf(want), e)
	}
	if f != api.OK {
		return e
	}
	if back, g := scale.To(n, got); back != wideOf(count) || g != api.OK {
		t.Errorf("To(%d, From(%d, %s)) = %s, %d", n, n, count, bigOf(back), g)
	}
	return e
}

// checkAll does both for all scales, if the number fits, and counts the errors that there were.
func checkAll(t *testing.T, number *big.Int, to, from map[api.Errno]int) {
	t.Helper()
	if !fits(number) {
		return
	}
	for _, n := range all {
		to[checkTo(t, n, number)]++
		from[checkFrom(t, n, number)]++
	}
}

// checkErrors tells whether each of those errors came up, and no other.
func checkErrors(t *testing.T, seen map[api.Errno]int, want ...api.Errno) {
	t.Helper()
	if len(seen) != len(want) {
		t.Errorf("errors %v; want just %v", seen, want)
	}
	for _, e := range want {
		if seen[e] == 0 {
			t.Errorf("error %d never came up: %v", e, seen)
		}
	}
}

// P16.1, P16.2: the numbers of the scales are api's, and the chapter's example.
func TestExample(t *testing.T) {
	if api.TAI != tai || api.TT != tt || api.GPS != gps || api.PTP != ptp {
		t.Errorf("scales %d, %d, %d, %d", api.TAI, api.TT, api.GPS, api.PTP)
	}
	zero := wideOf(counted(44244, 19, 0))
	if n, e := scale.To(api.GPS, zero); n != (api.Wide{}) || e != api.OK {
		t.Errorf("To(GPS, ..) = %v, %d; want 0", n, e)
	}
	if n, e := scale.From(api.GPS, api.Wide{}); n != zero || e != api.OK {
		t.Errorf("From(GPS, 0) = %v, %d; want %v", n, e, zero)
	}
}

// P16.1, P16.2: each scale's zero, what is beside it, and TAI's day 0.
func TestZeros(t *testing.T) {
	for _, x := range []struct {
		scale, day, sec, atto int
		dayZero               string
	}{
		{tai, 36204, 0, 0, "-3128025600000000000000000000"},
		{tt, 51544, 43167, 816000000000000000, "-4453444767816000000000000000"},
		{gps, 44244, 19, 0, "-3822681619000000000000000000"},
		{ptp, 40587, 0, 0, "-3506716800000000000000000000"},
	} {
		zero := counted(x.day, x.sec, x.atto)
		for by := -3; by <= 3; by++ {
			want := wideOf(big.NewInt(int64(by)))
			if n, e := scale.To(x.scale, wideOf(plus(zero, by))); n != want || e != api.OK {
				t.Errorf("To(%d, zero and %d) = %v, %d", x.scale, by, n, e)
			}
			if n, e := scale.From(x.scale, want); n != wideOf(plus(zero, by)) || e != api.OK {
				t.Errorf("From(%d, %d) = %v, %d", x.scale, by, n, e)
			}
		}
		if n, e := scale.To(x.scale, api.Wide{}); n != wideOf(bigText(x.dayZero)) || e != api.OK {
			t.Errorf("To(%d, 0) = %s, %d; want %s", x.scale, bigOf(n), e, x.dayZero)
		}
	}
}

// P16.1: moments that are known on all of these scales: TT is 32.184 seconds ahead of TAI, GPS 19 behind it; GPS's own zero and PTP's, by the others.
func TestKnown(t *testing.T) {
	for _, x := range []struct {
		day, sec, atto int
		counts         [4]string
	}{
		// January 1, 2000, noon of TAI: 32.184 seconds after noon of TT.
		{51544, 43200, 0, [4]string{"1325419200000000000000000000", "32184000000000000000", "630763181000000000000000000", "946728000000000000000000000"}},
		// January 1, 1977, midnight of TAI: the moment at which TT was fixed as 32.184 seconds ahead.
		{43144, 0, 0, [4]string{"599616000000000000000000000", "-725803167816000000000000000", "-95040019000000000000000000", "220924800000000000000000000"}},
		// January 6, 1980, midnight of UTC.
		{44244, 19, 0, [4]string{"694656019000000000000000000", "-630763148816000000000000000", "0", "315964819000000000000000000"}},
		// January 1, 1970, midnight of TAI, and an attosecond ahead of it.
		{40587, 0, 0, [4]string{"378691200000000000000000000", "-946727967816000000000000000", "-315964819000000000000000000", "0"}},
		{40586, 86399, lastAtto, [4]string{"378691199999999999999999999", "-946727967816000000000000001", "-315964819000000000000000001", "-1"}},
	} {
		for i, n := range all {
			want := wideOf(bigText(x.counts[i]))
			instant := wideOf(counted(x.day, x.sec, x.atto))
			if got, e := scale.To(n, instant); got != want || e != api.OK {
				t.Errorf("To(%d, %d, %d, %d) = %s, %d; want %s", n, x.day, x.sec, x.atto, bigOf(got), e, x.counts[i])
			}
			if got, e := scale.From(n, want); got != instant || e != api.OK {
				t.Errorf("From(%d, %s) = %s, %d; want %s", n, x.counts[i], bigOf(got), e, bigOf(instant))
			}
		}
	}
}

// P16.1, P16.2: the first and the last instant in range, and the ones beside them that are not, on every scale.
func TestRange(t *testing.T) {
	first, last := counted(-lastDay, 0, 0), counted(lastDay, daySeconds-1, lastAtto)
	for _, n := range all {
		for by := -3; by <= 3; by++ {
			for _, edge := range []*big.Int{first, last} {
				in := edge == first && by >= 0 || edge == last && by <= 0
				instant := plus(edge, by)
				count := new(big.Int).Sub(instant, zeroOf(n))
				to, e := scale.To(n, wideOf(instant))
				from, f := scale.From(n, wideOf(count))
				if in && (to != wideOf(count) || e != api.OK || from != wideOf(instant) || f != api.OK) {
					t.Errorf("scale %d, %s: To %v, %d; From %v, %d", n, instant, to, e, from, f)
				}
				if !in && (to != (api.Wide{}) || e != api.ErrOver || from != (api.Wide{}) || f != api.ErrOver) {
					t.Errorf("scale %d, %s: To %v, %d; From %v, %d; want ErrOver", n, instant, to, e, from, f)
				}
			}
		}
	}
}

// P16.2: a count is not held against the range, but its instant is: on either side of it, by as much as the zero is from day 0.
func TestRangeOfCounts(t *testing.T) {
	to, from := map[api.Errno]int{}, map[api.Errno]int{}
	first, end := counted(-lastDay, 0, 0), counted(lastDay+1, 0, 0)
	for _, n := range all {
		for _, m := range all {
			for by := -2; by <= 2; by++ {
				for _, edge := range []*big.Int{first, end} {
					checkAll(t, plus(new(big.Int).Sub(edge, zeroOf(m)), by), to, from)
					checkAll(t, plus(new(big.Int).Add(edge, zeroOf(m)), by), to, from)
					checkAll(t, plus(new(big.Int).Sub(new(big.Int).Add(edge, zeroOf(m)), zeroOf(n)), by), to, from)
				}
			}
		}
	}
	checkErrors(t, to, api.OK, api.ErrOver)
	checkErrors(t, from, api.OK, api.ErrOver)
}

// P16.1, P16.2: at a Wide's ends nothing wraps; a sum that does not fit is out of range.
func TestEnds(t *testing.T) {
	for _, n := range all {
		for by := range 5 {
			for _, number := range []*big.Int{
				plus(bigOf(least), by), plus(bigOf(most), -by), plus(new(big.Int).Add(bigOf(least), zeroOf(n)), by-2), plus(new(big.Int).Sub(bigOf(most), zeroOf(n)), by-2),
			} {
				if to, e := scale.To(n, wideOf(number)); to != (api.Wide{}) || e != api.ErrOver {
					t.Errorf("To(%d, %s) = %v, %d; want ErrOver", n, number, to, e)
				}
				if from, e := scale.From(n, wideOf(number)); from != (api.Wide{}) || e != api.ErrOver {
					t.Errorf("From(%d, %s) = %v, %d; want ErrOver", n, number, from, e)
				}
			}
		}
	}
}

// P16.1, P16.2, R2: other scales are ErrArg, whether the instant is in range or not.
func TestOtherScales(t *testing.T) {
	for _, n := range others {
		for _, number := range []api.Wide{
			{}, {Lo: 1}, {Hi: -1, Lo: math.MaxUint64}, wideOf(counted(51544, 43200, 0)), wideOf(counted(lastDay, 86399, lastAtto)), wideOf(counted(lastDay+1, 0, 0)),
			wideOf(counted(-lastDay, 0, 0)), wideOf(counted(-lastDay, 0, -1)), {Hi: 1 << 62}, {Hi: -1 << 62}, least, most,
		} {
			if got, e := scale.To(n, number); got != (api.Wide{}) || e != api.ErrArg {
				t.Errorf("To(%d, %v) = %v, %d; want ErrArg", n, number, got, e)
			}
			if got, e := scale.From(n, number); got != (api.Wide{}) || e != api.ErrArg {
				t.Errorf("From(%d, %v) = %v, %d; want ErrArg", n, number, got, e)
			}
		}
	}
}

// P16.1, P16.2: just those four scales are there, of all small numbers.
func TestScales(t *testing.T) {
	for n := -1000; n <= 1000; n++ {
		want := api.ErrArg
		if n >= 1 && n <= 4 {
			want = api.OK
		}
		_, e := scale.To(n, api.Wide{})
		_, f := scale.From(n, api.Wide{})
		if e != want || f != want {
			t.Errorf("scale %d: %d, %d; want %d", n, e, f, want)
		}
	}
}

// P16.1, P16.2: numbers of all of a Wide's sizes.
func TestEverywhere(t *testing.T) {
	to, from := map[api.Errno]int{}, map[api.Errno]int{}
	for i := range uint(128) {
		n := new(big.Int).Lsh(big.NewInt(1), i)
		for by := -2; by <= 2; by++ {
			checkAll(t, plus(n, by), to, from)
			checkAll(t, plus(new(big.Int).Neg(n), by), to, from)
		}
	}
	ten := big.NewInt(1)
	for range 39 {
		for by := -2; by <= 2; by++ {
			checkAll(t, plus(ten, by), to, from)
			checkAll(t, plus(new(big.Int).Neg(ten), by), to, from)
		}
		ten = new(big.Int).Mul(ten, big.NewInt(10))
	}
	checkErrors(t, to, api.OK, api.ErrOver)
	checkErrors(t, from, api.OK, api.ErrOver)
}

// P16.1, P16.2: instants at the ends of days and seconds, and of days in all of the range.
func TestDays(t *testing.T) {
	to, from := map[api.Errno]int{}, map[api.Errno]int{}
	for _, day := range []int{-lastDay - 1, -lastDay, -lastDay + 1, -1, 0, 1, 15020, 36203, 36204, 40586, 40587, 41317, 44243, 44244, 51543, 51544, 51545, 60000, lastDay - 1, lastDay, lastDay + 1} {
		for _, sec := range []int{0, 1, 18, 19, 20, 32, 43166, 43167, 43168, 43200, 86398, 86399} {
			for _, atto := range []int{0, 1, 184000000000000000, 815999999999999999, 816000000000000000, 816000000000000001, lastAtto} {
				checkAll(t, counted(day, sec, atto), to, from)
			}
		}
	}
	checkErrors(t, to, api.OK, api.ErrOver)
	checkErrors(t, from, api.OK, api.ErrOver)
}

// P16.1, P16.2: drawn numbers, the same ones each time, of all sizes and near the ends of the range.
func TestDrawn(t *testing.T) {
	r := rand.New(rand.NewPCG(16, 1))
	to, from := map[api.Errno]int{}, map[api.Errno]int{}
	for range 5000 {
		checkAll(t, new(big.Int).Rsh(bigOf(api.Wide{Hi: int64(r.Uint64()), Lo: r.Uint64()}), uint(r.IntN(127))), to, from)
		checkAll(t, counted(r.IntN(2*lastDay+1)-lastDay, r.IntN(daySeconds), r.IntN(lastAtto+1)), to, from)
		checkAll(t, counted((2*r.IntN(2)-1)*lastDay, r.IntN(1<<34)-1<<33, r.IntN(lastAtto+1)), to, from)
	}
	checkErrors(t, to, api.OK, api.ErrOver)
	checkErrors(t, from, api.OK, api.ErrOver)
}

// R5: many ask at once, refused ones between, and each has its answer.
func TestAtOnce(t *testing.T) {
	var together sync.WaitGroup
	faults := make([]string, 16)
	instant := counted(51544, 43200, 5)
	for n := range faults {
		together.Go(func() {
			for range 50 {
				for _, s := range []int{4, 0, 3, 2, 5, 1} {
					want, e := wantTo(s, instant)
					got, f := scale.To(s, wideOf(instant))
					if got != want || f != e {
						faults[n] = fmt.Sprint("To ", s, got, f)
					}
					want, e = wantFrom(s, instant)
					got, f = scale.From(s, wideOf(instant))
					if got != want || f != e {
						faults[n] = fmt.Sprint("From ", s, got, f)
					}
				}
			}
		})
	}
	together.Wait()
	for _, fault := range faults {
		if fault != "" {
			t.Error(fault)
		}
	}
}
