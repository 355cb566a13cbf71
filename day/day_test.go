package day

import (
	"math"
	"math/big"
	"math/rand/v2"
	"testing"

	"epact/api"
	"epact/dec"
)

const (
	lastSec  = 86399
	lastAtto = 999999999999999999
	lastDay  = 1099511627776 // and -lastDay is the first one
	noonZero = 2400001       // Julian day 0 begins at noon of the day that is so far below 0
)

var (
	least = api.Wide{Hi: math.MinInt64}
	most  = api.Wide{Hi: math.MaxInt64, Lo: math.MaxUint64}
)

// secs are seconds of a day at its ends, about noon and within it.
var secs = []int{0, 1, 2, 43198, 43199, 43200, 43201, 45296, lastSec - 1, lastSec}

// noSecs are just beyond a day, on either side, and far from it.
var noSecs = []int{-1, -2, -43200, -86399, -86400, -86401, 86400, 86401, 86460, 129600, 172799, 172800, 1 << 32, -1 << 32, math.MaxInt - 43200, math.MaxInt, math.MinInt}

// attos are those of a second at its ends and within it.
var attos = []int{0, 1, 2, 499999999999999999, 500000000000000000, lastAtto - 1, lastAtto}

// noAttos are just beyond a second, on either side, and far from it.
var noAttos = []int{-1, -2, -lastAtto, -lastAtto - 1, lastAtto + 1, lastAtto + 2, 2 * lastAtto, math.MaxInt, math.MinInt}

// days answers ints of all sizes: powers of two and of ten on both sides of 0, the range's ends and those of its Julian dates, and what is beside them.
func days() []int {
	list := []int{math.MinInt, math.MinInt + 1, math.MinInt + 2, math.MaxInt, math.MaxInt - 1, math.MaxInt - 2}
	add := func(n int) {
		for more := -3; more <= 3; more++ {
			list = append(list, n+more, -n+more)
		}
	}
	for i := range 63 {
		add(1<<i - 1)
	}
	ten := 1
	for range 18 {
		add(ten)
		ten *= 10
	}
	for _, n := range []int{
		0, 51544, noonZero, 2451545, lastDay, lastDay - noonZero, lastDay + noonZero, lastDay + 2*noonZero,
		math.MaxInt - noonZero, math.MaxInt - lastDay, math.MaxInt - lastDay - noonZero, math.MaxInt / 86400, math.MaxInt / 43200,
	} {
		add(n)
	}
	return list
}

// drawnDays answers n ints of all lengths on both sides of 0; the same ones for the same seed.
func drawnDays(seed uint64, n int) []int {
	source := rand.New(rand.NewPCG(seed, 7))
	list := make([]int, n)
	for i := range list {
		list[i] = int(source.Uint64()) >> source.IntN(64)
	}
	return list
}

// drawnLabel answers a plain label of a day from first to last.
func drawnLabel(source *rand.Rand, first, last int) api.Label {
	return api.Label{Day: first + source.IntN(last-first+1), Sec: source.IntN(lastSec + 1), Atto: source.IntN(lastAtto + 1)}
}

func bigOf(a api.Wide) *big.Int {
	n := big.NewInt(a.Hi)
	n.Lsh(n, 64)
	return n.Add(n, new(big.Int).SetUint64(a.Lo))
}

// wideOf answers n, which must fit.
func wideOf(n *big.Int) api.Wide {
	word := new(big.Int).Lsh(big.NewInt(1), 64)
	hi, lo := new(big.Int).DivMod(n, word, new(big.Int))
	return api.Wide{Hi: hi.Int64(), Lo: lo.Uint64()}
}

func fits(n *big.Int) bool {
	return n.Cmp(bigOf(least)) >= 0 && n.Cmp(bigOf(most)) <= 0
}

// bigText answers the number whose text s is.
func bigText(s string) *big.Int {
	n, ok := new(big.Int).SetString(s, 10)
	if !ok {
		panic(s)
	}
	return n
}

var (
	bigSecond = bigText("1000000000000000000")
	bigDay    = bigText("86400000000000000000000")
	bigHalf   = bigText("43200000000000000000000")
)

// wantPlain says once more what a plain label is, by what it may not be.
func wantPlain(l api.Label) bool {
	switch {
	case l.Sec < 0, l.Sec >= 86400, l.Atto < 0, l.Atto >= 1000000000000000000:
		return false
	}
	return true
}

// wantErr says which error Join and Julian have of l.
func wantErr(l api.Label) api.Errno {
	switch {
	case !wantPlain(l):
		return api.ErrArg
	case l.Day > lastDay, l.Day < -lastDay:
		return api.ErrOver
	}
	return api.OK
}

// countOf works out a plain label's count, by math/big: in range or not.
func countOf(l api.Label) *big.Int {
	n := new(big.Int).Mul(big.NewInt(int64(l.Day)), bigDay)
	n.Add(n, new(big.Int).Mul(big.NewInt(int64(l.Sec)), bigSecond))
	return n.Add(n, big.NewInt(int64(l.Atto)))
}

// labelOf works out the plain label of a count, by math/big; false, if its Day is not in range.
func labelOf(n *big.Int) (api.Label, bool) {
	day, left := new(big.Int).DivMod(n, bigDay, new(big.Int))
	if day.CmpAbs(big.NewInt(lastDay)) > 0 {
		return api.Label{}, false
	}
	return apart(day, left), true
}

// apart answers the label of a day that is an int, and of what is left of it.
func apart(day, left *big.Int) api.Label {
	sec, atto := new(big.Int).DivMod(left, bigSecond, new(big.Int))
	return api.Label{Day: int(day.Int64()), Sec: int(sec.Int64()), Atto: int(atto.Int64())}
}

// julianOf works out the Julian date of a plain label in range, by what has gone by since the noon with which Julian day 0 began.
func julianOf(l api.Label) api.Label {
	n := countOf(l)
	n.Add(n, new(big.Int).Mul(big.NewInt(noonZero), bigDay))
	n.Sub(n, bigHalf)
	return apart(new(big.Int).DivMod(n, bigDay, new(big.Int)))
}

// checkJoin holds what Join answers of l against what the chapter says, and that Split undoes it.
func checkJoin(t *testing.T, l api.Label) bool {
	t.Helper()
	n, e := Join(l)
	if want := wantErr(l); want != api.OK {
		if n != (api.Wide{}) || e != want {
			t.Fatalf("Join(%v) = %s, %d; want error %d", l, bigOf(n), e, want)
		}
		return false
	}
	if want := countOf(l); bigOf(n).Cmp(want) != 0 || e != api.OK {
		t.Fatalf("Join(%v) = %s, %d; want %s", l, bigOf(n), e, want)
	}
	if m, e := Split(n); m != l || e != api.OK {
		t.Fatalf("Split(%s) = %v, %d; want %v", bigOf(n), m, e, l)
	}
	return true
}

// checkSplit holds what Split answers of n, which must fit, against what the chapter says, and that Join undoes it.
func checkSplit(t *testing.T, n *big.Int) bool {
	t.Helper()
	l, e := Split(wideOf(n))
	want, ok := labelOf(n)
	if !ok {
		if l != (api.Label{}) || e != api.ErrOver {
			t.Fatalf("Split(%s) = %v, %d; want ErrOver", n, l, e)
		}
		return false
	}
	if l != want || e != api.OK {
		t.Fatalf("Split(%s) = %v, %d; want %v", n, l, e, want)
	}
	if m, e := Join(l); bigOf(m).Cmp(n) != 0 || e != api.OK {
		t.Fatalf("Join(%v) = %s, %d; want %s", l, bigOf(m), e, n)
	}
	return true
}

// checkJulian holds what Julian answers of l against what the chapter says, and that Civil undoes it.
func checkJulian(t *testing.T, l api.Label) bool {
	t.Helper()
	j, e := Julian(l)
	if want := wantErr(l); want != api.OK {
		if j != (api.Label{}) || e != want {
			t.Fatalf("Julian(%v) = %v, %d; want error %d", l, j, e, want)
		}
		return false
	}
	if want := julianOf(l); j != want || e != api.OK {
		t.Fatalf("Julian(%v) = %v, %d; want %v", l, j, e, want)
	}
	if m, e := Civil(j); m != l || e != api.OK {
		t.Fatalf("Civil(%v) = %v, %d; want %v", j, m, e, l)
	}
	return true
}

// checkCivil holds what Civil answers of j against what the chapter says, and that Julian undoes it.
func checkCivil(t *testing.T, j api.Label) bool {
	t.Helper()
	l, e := Civil(j)
	if !wantPlain(j) {
		if l != (api.Label{}) || e != api.ErrArg {
			t.Fatalf("Civil(%v) = %v, %d; want ErrArg", j, l, e)
		}
		return false
	}
	n := countOf(j)
	n.Sub(n, new(big.Int).Mul(big.NewInt(noonZero), bigDay))
	n.Add(n, bigHalf)
	want, ok := labelOf(n)
	if !ok {
		if l != (api.Label{}) || e != api.ErrOver {
			t.Fatalf("Civil(%v) = %v, %d; want ErrOver", j, l, e)
		}
		return false
	}
	if l != want || e != api.OK {
		t.Fatalf("Civil(%v) = %v, %d; want %v", j, l, e, want)
	}
	if m, e := Julian(l); m != j || e != api.OK {
		t.Fatalf("Julian(%v) = %v, %d; want %v", l, m, e, j)
	}
	return true
}

// checkAll holds every call of a label against what the chapter says, and tells whether Join and Civil take it.
func checkAll(t *testing.T, l api.Label) (joined, civil bool) {
	t.Helper()
	joined = checkJoin(t, l)
	if checkJulian(t, l) != joined {
		t.Fatalf("%v: Join takes it: %t, Julian does not agree", l, joined)
	}
	return joined, checkCivil(t, l)
}

// P7.1: labels and their counts, as texts.
func TestJoinAndSplitTable(t *testing.T) {
	for l, want := range map[api.Label]string{
		{}:                             "0",
		{Atto: 1}:                      "1",
		{Atto: lastAtto}:               "999999999999999999",
		{Sec: 1}:                       "1000000000000000000",
		{Sec: 9, Atto: 7}:              "9000000000000000007",
		{Sec: 10}:                      "10000000000000000000",
		{Sec: 43200}:                   "43200000000000000000000",
		{Sec: lastSec}:                 "86399000000000000000000",
		{Sec: lastSec, Atto: lastAtto}: "86399999999999999999999",
		{Day: 1}:                       "86400000000000000000000",
		{Day: 1, Atto: 5}:              "86400000000000000000005",
		{Day: 2, Sec: 3, Atto: 4}:      "172803000000000000000004",
		{Day: -1, Sec: 86399, Atto: 999999999999999999}: "-1",
		{Day: -1, Sec: lastSec, Atto: 1}:                "-999999999999999999",
		{Day: -1, Sec: lastSec}:                         "-1000000000000000000",
		{Day: -1, Sec: 86398, Atto: lastAtto}:           "-1000000000000000001",
		{Day: -1, Atto: 1}:                              "-86399999999999999999999",
		{Day: -1}:                                       "-86400000000000000000000",
		{Day: -2, Sec: lastSec, Atto: lastAtto}:         "-86400000000000000000001",
		{Day: 51544}:                                    "4453401600000000000000000000",
		{Day: lastDay}:                                  "94997804639846400000000000000000000",
		{Day: lastDay, Sec: lastSec, Atto: lastAtto}:    "94997804639932799999999999999999999",
		{Day: -lastDay}:                                 "-94997804639846400000000000000000000",
		{Day: -lastDay, Atto: 1}:                        "-94997804639846399999999999999999999",
		{Day: -lastDay, Sec: lastSec, Atto: lastAtto}:   "-94997804639760000000000000000000001",
	} {
		n, e := Join(l)
		if e != api.OK || dec.Print(n) != want {
			t.Errorf("Join(%v) = %s, %d; want %s", l, dec.Print(n), e, want)
		}
		if m, e := Split(wideOf(bigText(want))); m != l || e != api.OK {
			t.Errorf("Split(%s) = %v, %d; want %v", want, m, e, l)
		}
	}
}

// P7.1: counts just beyond the range and as far from it as there are any, those that a Wide or an int of seconds could make near again among them.
func TestSplitOver(t *testing.T) {
	for _, text := range []string{
		"94997804639932800000000000000000000",
		"94997804639932800000000000000000001",
		"-94997804639846400000000000000000001",
		"-94997804639846400000000000000000002",
		"-94997804639932800000000000000000000",
		"9223372036854775807000000000000000000",
		"9223372036854775808000000000000000000",
		"-9223372036854775808000000000000000000",
		"-9223372036854775809000000000000000000",
		"18446744073709551615000000000000000000",
		"18446744073709551616000000000000000000",
		"-18446744073709551616000000000000000000",
		"170141183460469231731687303715884105726",
		"170141183460469231731687303715884105727",
		"-170141183460469231731687303715884105727",
		"-170141183460469231731687303715884105728",
	} {
		if l, e := Split(wideOf(bigText(text))); l != (api.Label{}) || e != api.ErrOver {
			t.Errorf("Split(%s) = %v, %d; want ErrOver", text, l, e)
		}
	}
}

// P7.1: counts at the ends of days, seconds and the range, at all sizes that a Wide has, on both sides of 0, and what is beside them.
func TestSplitEverywhere(t *testing.T) {
	taken, refused := 0, 0
	check := func(n *big.Int) {
		for more := int64(-2); more <= 2; more++ {
			for _, sign := range []int64{-1, 1} {
				near := new(big.Int).Add(n, big.NewInt(more))
				near.Mul(near, big.NewInt(sign))
				if !fits(near) {
					continue
				}
				if checkSplit(t, near) {
					taken++
				} else {
					refused++
				}
			}
		}
	}
	for i := range uint(128) {
		check(new(big.Int).Lsh(big.NewInt(1), i))
	}
	for i := range int64(39) {
		ten := new(big.Int).Exp(big.NewInt(10), big.NewInt(i), nil)
		for times := range int64(10) {
			check(new(big.Int).Mul(ten, big.NewInt(times)))
		}
	}
	for _, day := range append(days(), drawnDays(1, 2000)...) {
		for _, sec := range secs {
			check(countOf(api.Label{Day: day, Sec: sec}))
		}
	}
	check(bigOf(least))
	check(bigOf(most))
	if taken == 0 || refused == 0 {
		t.Errorf("%d counts are taken, %d refused: want some of both", taken, refused)
	}
}

// P7.1: drawn counts of all lengths.
func TestSplitDrawn(t *testing.T) {
	source := rand.New(rand.NewPCG(2, 7))
	for range 20000 {
		a := api.Wide{Hi: int64(source.Uint64()), Lo: source.Uint64()}
		for range source.IntN(128) {
			a.Lo = a.Lo>>1 | uint64(a.Hi)<<63
			a.Hi >>= 1
		}
		checkSplit(t, bigOf(a))
	}
}

// P7.1: counts that follow one another are labels that do, across the ends of seconds and days, on both sides of 0.
func TestSplitOneByOne(t *testing.T) {
	for _, from := range []api.Label{
		{Day: -lastDay}, {Day: -2, Sec: lastSec, Atto: lastAtto - 4}, {Day: -1, Sec: lastSec, Atto: lastAtto - 4}, {},
		{Sec: 4, Atto: lastAtto - 4}, {Sec: lastSec, Atto: lastAtto - 4}, {Day: lastDay - 1, Sec: lastSec, Atto: lastAtto - 4},
	} {
		n, want := countOf(from), from
		for range 12 {
			if l, e := Split(wideOf(n)); l != want || e != api.OK {
				t.Errorf("Split(%s) = %v, %d; want %v", n, l, e, want)
			}
			n.Add(n, big.NewInt(1))
			want = oneOn(want)
		}
	}
}

// oneOn answers the plain label one attosecond behind l.
func oneOn(l api.Label) api.Label {
	l.Atto++
	if l.Atto > lastAtto {
		l.Sec, l.Atto = l.Sec+1, 0
	}
	if l.Sec > lastSec {
		l.Day, l.Sec = l.Day+1, 0
	}
	return l
}

// P7.2: labels and their Julian dates: noons, midnights, what is just ahead of them, and the range's ends.
func TestJulianAndCivilTable(t *testing.T) {
	for l, want := range map[api.Label]api.Label{
		{}:                                       {Day: 2400000, Sec: 43200},
		{Sec: 43200}:                             {Day: 2400001},
		{Day: 51544, Sec: 43200}:                 {Day: 2451545},
		{Day: 51544}:                             {Day: 2451544, Sec: 43200},
		{Day: 51544, Atto: 9}:                    {Day: 2451544, Sec: 43200, Atto: 9},
		{Day: 51543, Sec: lastSec}:               {Day: 2451544, Sec: 43199},
		{Day: 51544, Sec: 43199, Atto: lastAtto}: {Day: 2451544, Sec: lastSec, Atto: lastAtto},
		{Day: 51544, Sec: 43200, Atto: 1}:        {Day: 2451545, Atto: 1},
		{Day: 51544, Sec: lastSec, Atto: lastAtto}: {Day: 2451545, Sec: 43199, Atto: lastAtto},
		{Day: 51545}:                                 {Day: 2451545, Sec: 43200},
		{Day: -2400001, Sec: 43200}:                  {},
		{Day: -2400001, Sec: 43199}:                  {Day: -1, Sec: lastSec},
		{Day: -2400001}:                              {Day: -1, Sec: 43200},
		{Day: -2400000}:                              {Sec: 43200},
		{Day: -2400002, Sec: 43200}:                  {Day: -1},
		{Day: lastDay}:                               {Day: lastDay + 2400000, Sec: 43200},
		{Day: lastDay, Sec: 43199}:                   {Day: lastDay + 2400000, Sec: lastSec},
		{Day: lastDay, Sec: 43200}:                   {Day: lastDay + 2400001},
		{Day: lastDay, Sec: lastSec, Atto: lastAtto}: {Day: lastDay + 2400001, Sec: 43199, Atto: lastAtto},
		{Day: lastDay - 2400001, Sec: 43200}:         {Day: lastDay},
		{Day: lastDay - 2400000, Sec: 43200}:         {Day: lastDay + 1},
		{Day: -lastDay}:                              {Day: -lastDay + 2400000, Sec: 43200},
		{Day: -lastDay, Sec: 43199}:                  {Day: -lastDay + 2400000, Sec: lastSec},
		{Day: -lastDay, Sec: 43200}:                  {Day: -lastDay + 2400001},
	} {
		if j, e := Julian(l); j != want || e != api.OK {
			t.Errorf("Julian(%v) = %v, %d; want %v", l, j, e, want)
		}
		if m, e := Civil(want); m != l || e != api.OK {
			t.Errorf("Civil(%v) = %v, %d; want %v", want, m, e, l)
		}
	}
}

// P7.2: Julian dates of moments just beyond the range, of days in range themselves or not, and of days at an int's ends, where they could wrap.
func TestCivilOver(t *testing.T) {
	for _, j := range []api.Label{
		{Day: lastDay + 2400001, Sec: 43200}, {Day: lastDay + 2400001, Sec: lastSec, Atto: lastAtto}, {Day: lastDay + 2400002}, {Day: lastDay + 2400003},
		{Day: -lastDay + 2400000, Sec: 43199, Atto: lastAtto}, {Day: -lastDay + 2400000}, {Day: -lastDay + 2399999, Sec: lastSec, Atto: lastAtto},
		{Day: -lastDay, Sec: lastSec}, {Day: -lastDay}, {Day: -lastDay - 1, Sec: lastSec, Atto: lastAtto}, {Day: 1 << 62}, {Day: -1 << 62},
		{Day: math.MaxInt}, {Day: math.MaxInt, Sec: lastSec}, {Day: math.MinInt}, {Day: math.MinInt, Sec: lastSec}, {Day: math.MinInt + 2400000, Sec: 43200},
		{Day: math.MinInt + 2400001}, {Day: math.MinInt + 2400001 + lastDay}, {Day: math.MinInt + 2400002, Sec: lastSec, Atto: lastAtto},
	} {
		if l, e := Civil(j); l != (api.Label{}) || e != api.ErrOver {
			t.Errorf("Civil(%v) = %v, %d; want ErrOver", j, l, e)
		}
	}
}

// P7.1, P7.2: days just beyond the range and far from it, in labels that are plain.
func TestOver(t *testing.T) {
	for _, day := range []int{
		lastDay + 1, lastDay + 2, 2 * lastDay, lastDay + 2400001, -lastDay - 1, -lastDay - 2, -2 * lastDay, -lastDay - 2400001,
		1 << 47, 1 << 57, 1 << 62, -1 << 62, math.MaxInt - 2400000, math.MaxInt - 2400001, math.MaxInt, math.MinInt,
	} {
		for _, sec := range secs {
			for _, atto := range attos {
				l := api.Label{Day: day, Sec: sec, Atto: atto}
				if n, e := Join(l); n != (api.Wide{}) || e != api.ErrOver {
					t.Errorf("Join(%v) = %v, %d; want ErrOver", l, n, e)
				}
				if j, e := Julian(l); j != (api.Label{}) || e != api.ErrOver {
					t.Errorf("Julian(%v) = %v, %d; want ErrOver", l, j, e)
				}
			}
		}
	}
}

// P7.1, P7.2: labels that are not plain are ErrArg, wherever their day is: also where ErrOver applies as well.
func TestNotPlain(t *testing.T) {
	wrong := []api.Label{}
	for _, sec := range noSecs {
		for _, atto := range append(attos, noAttos...) {
			wrong = append(wrong, api.Label{Sec: sec, Atto: atto})
		}
	}
	for _, sec := range secs {
		for _, atto := range noAttos {
			wrong = append(wrong, api.Label{Sec: sec, Atto: atto})
		}
	}
	for _, day := range []int{
		0, 1, -1, 51544, 2451545, lastDay, -lastDay, lastDay + 1, -lastDay - 1, lastDay + 2400001, lastDay + 2400002, -lastDay + 2400000,
		1 << 62, math.MaxInt, math.MinInt,
	} {
		for _, l := range wrong {
			l.Day = day
			if n, e := Join(l); n != (api.Wide{}) || e != api.ErrArg {
				t.Errorf("Join(%v) = %v, %d; want ErrArg", l, n, e)
			}
			if j, e := Julian(l); j != (api.Label{}) || e != api.ErrArg {
				t.Errorf("Julian(%v) = %v, %d; want ErrArg", l, j, e)
			}
			if m, e := Civil(l); m != (api.Label{}) || e != api.ErrArg {
				t.Errorf("Civil(%v) = %v, %d; want ErrArg", l, m, e)
			}
		}
	}
}

// P7.1, P7.2: days of every size that an int has, with seconds and attoseconds at their ends and just beyond.
func TestLabelsEverywhere(t *testing.T) {
	var taken, refused, civil, uncivil int
	for _, day := range append(days(), drawnDays(3, 1000)...) {
		for _, sec := range []int{-1, 0, 1, 43199, 43200, lastSec, lastSec + 1} {
			for _, atto := range []int{-1, 0, 1, lastAtto, lastAtto + 1} {
				joined, back := checkAll(t, api.Label{Day: day, Sec: sec, Atto: atto})
				if joined {
					taken++
				} else {
					refused++
				}
				if back {
					civil++
				} else {
					uncivil++
				}
			}
		}
	}
	if taken == 0 || refused == 0 || civil == 0 || uncivil == 0 {
		t.Errorf("%d and %d labels are taken, %d and %d refused: want some of all", taken, civil, refused, uncivil)
	}
}

// P7.1, P7.2: seconds and attoseconds of every size that an int has.
func TestPartsEverywhere(t *testing.T) {
	sizes := append(days(), drawnDays(4, 1000)...)
	for _, n := range sizes {
		for _, l := range []api.Label{{}, {Day: 51544, Sec: 43200, Atto: 9}, {Day: lastDay, Sec: lastSec, Atto: lastAtto}, {Day: -lastDay}, {Day: lastDay + 1}} {
			checkAll(t, api.Label{Day: l.Day, Sec: n, Atto: l.Atto})
			checkAll(t, api.Label{Day: l.Day, Sec: l.Sec, Atto: n})
			checkAll(t, api.Label{Day: l.Day, Sec: n, Atto: n})
			checkAll(t, api.Label{Day: n, Sec: n, Atto: n})
		}
	}
}

// P7.1, P7.2: every second of a day is one, and neither Join nor Julian leaves one out.
func TestEverySecond(t *testing.T) {
	for _, day := range []int{-lastDay, -2400001, -1, 0, lastDay} {
		for sec := range lastSec + 1 {
			for _, atto := range []int{0, lastAtto} {
				l := api.Label{Day: day, Sec: sec, Atto: atto}
				n, e := Join(l)
				if m, e2 := Split(n); e != api.OK || e2 != api.OK || m != l {
					t.Fatalf("Split of Join(%v) = %v, %d, %d", l, m, e, e2)
				}
				want := api.Label{Day: day + 2400000 + sec/43200, Sec: (sec + 43200) % 86400, Atto: atto}
				j, e := Julian(l)
				if m, e2 := Civil(j); e != api.OK || e2 != api.OK || j != want || m != l {
					t.Fatalf("Julian(%v) = %v, %d; Civil of it %v, %d", l, j, e, m, e2)
				}
			}
		}
	}
}

// P7.1, P7.2: drawn labels of the whole range, and of days near 0.
func TestDrawnLabels(t *testing.T) {
	source := rand.New(rand.NewPCG(5, 7))
	for range 20000 {
		checkAll(t, drawnLabel(source, -lastDay, lastDay))
		checkAll(t, drawnLabel(source, -3000000, 3000000))
		checkAll(t, drawnLabel(source, -3, 3))
	}
}
