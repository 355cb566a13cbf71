package pivot_test

import (
	"fmt"
	"math"
	"math/big"
	"math/rand/v2"
	"sync"
	"testing"

	"epact/api"
	"epact/pivot"
)

var (
	least = api.Wide{Hi: math.MinInt64}
	most  = api.Wide{Hi: math.MaxInt64, Lo: math.MaxUint64}
)

// noEras are eras that are not above 0; as numbers without a sign some would be.
var noEras = []api.Wide{
	{}, {Hi: -1, Lo: math.MaxUint64}, {Hi: -1, Lo: math.MaxUint64 - 1}, {Hi: -1, Lo: 10}, {Hi: -1}, {Hi: -1, Lo: 1}, {Hi: -2}, {Hi: -2, Lo: 7}, {Hi: -1 << 62},
	least, {Hi: math.MinInt64, Lo: 1}, {Hi: math.MinInt64, Lo: 10}, {Hi: math.MinInt64, Lo: math.MaxUint64}, {Hi: math.MinInt64 + 1},
}

func bigOf(a api.Wide) *big.Int {
	n := big.NewInt(a.Hi)
	n.Lsh(n, 64)
	return n.Add(n, new(big.Int).SetUint64(a.Lo))
}

// wideOf answers n, which fits.
func wideOf(n *big.Int) api.Wide {
	lo := new(big.Int).And(n, new(big.Int).SetUint64(math.MaxUint64))
	return api.Wide{Hi: new(big.Int).Rsh(n, 64).Int64(), Lo: lo.Uint64()}
}

// of answers n as a Wide.
func of(n int) api.Wide { return wideOf(big.NewInt(int64(n))) }

func fits(n *big.Int) bool {
	return n.Cmp(bigOf(least)) >= 0 && n.Cmp(bigOf(most)) <= 0
}

// plus answers n and by.
func plus(n *big.Int, by int) *big.Int {
	return new(big.Int).Add(n, big.NewInt(int64(by)))
}

// power answers 2^i and by.
func power(i uint, by int) *big.Int {
	return plus(new(big.Int).Lsh(big.NewInt(1), i), by)
}

// wantFold says the chapter's P18.1 once more, in big numbers.
func wantFold(n, era *big.Int) (*big.Int, api.Errno) {
	if era.Sign() <= 0 {
		return big.NewInt(0), api.ErrZero
	}
	// By a divisor above 0, big's Mod is from 0 to the divisor less 1.
	return new(big.Int).Mod(n, era), api.OK
}

// wantNear says P18.2 once more.
func wantNear(field, era, about *big.Int) (*big.Int, api.Errno) {
	if era.Sign() <= 0 {
		return big.NewInt(0), api.ErrZero
	}
	if field.Sign() < 0 || field.Cmp(era) >= 0 {
		return big.NewInt(0), api.ErrArg
	}
	low := new(big.Int).Sub(about, new(big.Int).Rsh(era, 1))
	number := new(big.Int).Sub(low, new(big.Int).Mod(low, era))
	number.Add(number, field)
	if number.Cmp(low) < 0 {
		number.Add(number, era)
	}
	if !fits(low) || !fits(number) {
		return big.NewInt(0), api.ErrOver
	}
	return number, api.OK
}

// checkFold holds Fold of numbers that fit against the chapter, and answers its error.
func checkFold(t *testing.T, n, era *big.Int) api.Errno {
	t.Helper()
	want, e := wantFold(n, era)
	got, f := pivot.Fold(wideOf(n), wideOf(era))
	if got != wideOf(want) || f != e {
		t.Errorf("Fold(%s, %s) = %s, %d; want %s, %d", n, era, bigOf(got), f, want, e)
	}
	return e
}

// checkNear holds Near of numbers that fit against the chapter, and each answer against Fold and the era's ends. It answers Near's error.
func checkNear(t *testing.T, field, era, about *big.Int) api.Errno {
	t.Helper()
	want, e := wantNear(field, era, about)
	got, f := pivot.Near(wideOf(field), wideOf(era), wideOf(about))
	if got != wideOf(want) || f != e {
		t.Errorf("Near(%s, %s, %s) = %s, %d; want %s, %d", field, era, about, bigOf(got), f, want, e)
	}
	if f != api.OK {
		return e
	}
	if back, g := pivot.Fold(got, wideOf(era)); back != wideOf(field) || g != api.OK {
		t.Errorf("Fold(Near(%s, %s, %s)) = %s, %d", field, era, about, bigOf(back), g)
	}
	low := new(big.Int).Sub(about, new(big.Int).Div(era, big.NewInt(2)))
	if from := new(big.Int).Sub(bigOf(got), low); from.Sign() < 0 || from.Cmp(era) >= 0 {
		t.Errorf("Near(%s, %s, %s) = %s, which is %s from %s", field, era, about, bigOf(got), from, low)
	}
	return e
}

// checkAll does Fold, and Near of the first number and of what it leaves, if all fit, and counts the errors that there were.
func checkAll(t *testing.T, n, era, about *big.Int, fold, near map[api.Errno]int) {
	t.Helper()
	if !fits(n) || !fits(era) || !fits(about) {
		return
	}
	fold[checkFold(t, n, era)]++
	near[checkNear(t, n, era, about)]++
	if era.Sign() > 0 {
		near[checkNear(t, new(big.Int).Mod(n, era), era, about)]++
	}
}

// checkErrors tells whether each of those errors came up, and no other.
func checkErrors(t *testing.T, seen map[api.Errno]int, want ...api.Errno) {
	t.Helper()
	if len(seen) != len(want) {
		t.Errorf("errors %v; want just %v", seen, want)
	}
	for _, e := range want {
		if seen[e] == 0 {
			t.Errorf("error %d never came up: %v", e, seen)
		}
	}
}

// P18.2: the chapter's examples, and weeks, seconds and hundreds of years as they are sent.
func TestExamples(t *testing.T) {
	for _, x := range []struct{ field, era, about, want int }{
		{1, 10, 28, 31}, {3, 10, 28, 23},
		// Weeks of 10 bits: 512 behind the pivot still belong to it, 512 ahead of it no more.
		{0, 1024, 2048, 2048}, {512, 1024, 2048, 1536}, {511, 1024, 2048, 2559}, {513, 1024, 2048, 1537}, {1023, 1024, 2048, 2047}, {1, 1024, 2048, 2049},
		{0, 1024, 0, 0}, {512, 1024, 0, -512}, {1023, 1024, 0, -1}, {511, 1024, 0, 511},
		// Seconds of 32 bits, about the beginning of the second era.
		{0, 1 << 32, 1 << 32, 1 << 32}, {1<<32 - 1, 1 << 32, 1 << 32, 1<<32 - 1}, {1 << 31, 1 << 32, 1 << 32, 1 << 31}, {1<<31 - 1, 1 << 32, 1 << 32, 1<<32 + 1<<31 - 1},
		// Years of two digits.
		{26, 100, 2026, 2026}, {75, 100, 2026, 2075}, {76, 100, 2026, 1976}, {99, 100, 2026, 1999},
	} {
		if n, e := pivot.Near(of(x.field), of(x.era), of(x.about)); n != of(x.want) || e != api.OK {
			t.Errorf("Near(%d, %d, %d) = %s, %d; want %d", x.field, x.era, x.about, bigOf(n), e, x.want)
		}
	}
}

// P18.1: all small numbers, by small eras, below 0, too.
func TestFoldSmall(t *testing.T) {
	for era := -9; era <= 40; era++ {
		for n := -130; n <= 130; n++ {
			want, e := 0, api.ErrZero
			if era > 0 {
				want, e = (n%era+era)%era, api.OK
			}
			if got, f := pivot.Fold(of(n), of(era)); got != of(want) || f != e {
				t.Errorf("Fold(%d, %d) = %s, %d; want %d, %d", n, era, bigOf(got), f, want, e)
			}
		}
	}
}

// P18.1: at a Wide's ends, by the least and the greatest eras.
func TestFoldEnds(t *testing.T) {
	for _, x := range []struct {
		n, era, want api.Wide
	}{
		{least, of(1), api.Wide{}}, {most, of(1), api.Wide{}}, {least, of(2), api.Wide{}}, {most, of(2), of(1)},
		{least, of(10), of(2)}, {most, of(10), of(7)}, {least, of(3), of(1)}, {most, of(3), of(1)},
		// The least number is the greatest era and one below 0.
		{least, most, wideOf(plus(bigOf(most), -1))}, {most, most, api.Wide{}}, {wideOf(plus(bigOf(most), -1)), most, wideOf(plus(bigOf(most), -1))},
		{wideOf(plus(bigOf(least), 1)), most, api.Wide{}}, {wideOf(plus(bigOf(least), 2)), most, of(1)},
		{of(-1), most, wideOf(plus(bigOf(most), -1))}, {api.Wide{}, most, api.Wide{}}, {of(1), most, of(1)},
		{of(-1), api.Wide{Hi: 1}, api.Wide{Lo: math.MaxUint64}}, {api.Wide{Hi: 1}, api.Wide{Hi: 1}, api.Wide{}}, {api.Wide{Hi: 5, Lo: 9}, api.Wide{Hi: 1}, of(9)},
		{api.Wide{Hi: -5, Lo: 9}, api.Wide{Hi: 1}, of(9)}, {least, api.Wide{Hi: 1 << 62}, api.Wide{}}, {most, api.Wide{Hi: 1 << 62}, api.Wide{Hi: 1<<62 - 1, Lo: math.MaxUint64}},
	} {
		if got, e := pivot.Fold(x.n, x.era); got != x.want || e != api.OK {
			t.Errorf("Fold(%s, %s) = %s, %d; want %s", bigOf(x.n), bigOf(x.era), bigOf(got), e, bigOf(x.want))
		}
	}
}

// P18.1, P18.2, R2, R3: an era that is not above 0 is ErrZero, whatever else is wrong.
func TestNoEra(t *testing.T) {
	for _, era := range noEras {
		for _, n := range []api.Wide{{}, of(1), of(-1), of(9), era, of(math.MaxInt), of(math.MinInt), {Hi: 1}, {Hi: -1}, least, most} {
			if got, e := pivot.Fold(n, era); got != (api.Wide{}) || e != api.ErrZero {
				t.Errorf("Fold(%v, %v) = %v, %d; want ErrZero", n, era, got, e)
			}
			for _, about := range []api.Wide{{}, of(28), of(-28), era, least, most} {
				if got, e := pivot.Near(n, era, about); got != (api.Wide{}) || e != api.ErrZero {
					t.Errorf("Near(%v, %v, %v) = %v, %d; want ErrZero", n, era, about, got, e)
				}
			}
		}
	}
}

// P18.2: small eras, odd and even, looked for number by number; only one of an era leaves the field.
func TestNearSmall(t *testing.T) {
	for era := 1; era <= 23; era++ {
		for about := -70; about <= 70; about++ {
			seen := map[api.Wide]bool{}
			for n := about - era/2; n < about-era/2+era; n++ {
				field := (n%era + era) % era
				got, e := pivot.Near(of(field), of(era), of(about))
				if got != of(n) || e != api.OK {
					t.Errorf("Near(%d, %d, %d) = %s, %d; want %d", field, era, about, bigOf(got), e, n)
				}
				seen[got] = true
			}
			if len(seen) != era {
				t.Errorf("about %d: %d numbers of %d", about, len(seen), era)
			}
		}
	}
}

// P18.2: the half of an odd era is rounded down, so that as much lies ahead of the pivot as behind it, pivots below 0 as well.
func TestOddEra(t *testing.T) {
	for _, x := range []struct{ era, about, low, high int }{
		{1, 0, 0, 0}, {1, -7, -7, -7}, {3, 0, -1, 1}, {3, -1, -2, 0}, {5, -1, -3, 1}, {5, 2, 0, 4}, {7, 100, 97, 103}, {9, -100, -104, -96},
		{2, 0, -1, 0}, {4, -1, -3, 0}, {1<<32 + 1, 0, -1 << 31, 1 << 31}, {math.MaxInt, 0, -1<<62 + 1, 1<<62 - 1}, {math.MaxInt, -1, -1 << 62, 1<<62 - 2},
	} {
		for _, n := range []int{x.low, x.high} {
			field, e := pivot.Fold(of(n), of(x.era))
			if e != api.OK {
				t.Fatalf("Fold(%d, %d): %d", n, x.era, e)
			}
			if got, e := pivot.Near(field, of(x.era), of(x.about)); got != of(n) || e != api.OK {
				t.Errorf("Near(%s, %d, %d) = %s, %d; want %d", bigOf(field), x.era, x.about, bigOf(got), e, n)
			}
		}
	}
}

// P18.2, R2, R3: a field that is not of the era is ErrArg, whether there would be room about the pivot or not.
func TestNoField(t *testing.T) {
	for _, era := range []api.Wide{of(1), of(2), of(3), of(10), of(1024), of(1 << 32), of(math.MaxInt), {Lo: math.MaxUint64}, {Hi: 1}, {Hi: 1, Lo: 1}, {Hi: 1 << 62}, most} {
		for _, field := range []*big.Int{
			big.NewInt(-1), big.NewInt(-2), big.NewInt(math.MinInt), new(big.Int).Neg(bigOf(era)), plus(new(big.Int).Neg(bigOf(era)), 1), plus(new(big.Int).Neg(bigOf(era)), -1),
			bigOf(era), plus(bigOf(era), 1), new(big.Int).Lsh(bigOf(era), 1), new(big.Int).Lsh(bigOf(era), 7), power(126, 0), bigOf(least), plus(bigOf(least), 1), bigOf(most),
		} {
			if !fits(field) || field.Sign() >= 0 && field.Cmp(bigOf(era)) < 0 {
				continue
			}
			for _, about := range []api.Wide{{}, of(1), of(-1), of(28), era, {Hi: 1}, {Hi: -1}, {Hi: 1 << 62}, {Hi: -1 << 62}, least, most} {
				if got, e := pivot.Near(wideOf(field), era, about); got != (api.Wide{}) || e != api.ErrArg {
					t.Errorf("Near(%s, %s, %s) = %s, %d; want ErrArg", field, bigOf(era), bigOf(about), bigOf(got), e)
				}
			}
		}
	}
}

// P18.2: of each era the first and the last field are taken, and the ones beside them are not.
func TestFieldEdges(t *testing.T) {
	for _, era := range []int{1, 2, 3, 10, 1023, 1024, 8192, 1 << 32, 1<<32 + 1, math.MaxInt} {
		for _, about := range []int{0, 1, -1, 28, -1000, 1 << 40, -1 << 40} {
			if got, e := pivot.Near(of(-1), of(era), of(about)); got != (api.Wide{}) || e != api.ErrArg {
				t.Errorf("Near(-1, %d, %d) = %v, %d", era, about, got, e)
			}
			if got, e := pivot.Near(of(era), of(era), of(about)); got != (api.Wide{}) || e != api.ErrArg {
				t.Errorf("Near(%d, %d, %d) = %v, %d", era, era, about, got, e)
			}
			checkNear(t, big.NewInt(0), big.NewInt(int64(era)), big.NewInt(int64(about)))
			checkNear(t, big.NewInt(int64(era-1)), big.NewInt(int64(era)), big.NewInt(int64(about)))
		}
	}
}

// P18.2: near the least Wide the era's beginning must fit, even if the number itself does.
func TestBeginOver(t *testing.T) {
	for _, era := range []int{1, 2, 3, 4, 5, 10, 11, 1024, 1 << 32} {
		for by := -2; by <= 2; by++ {
			about := plus(bigOf(least), era/2+by)
			if !fits(about) {
				continue
			}
			want := api.OK
			if by < 0 {
				want = api.ErrOver
			}
			for n := 0; n < min(era, 12); n++ {
				field, _ := pivot.Fold(wideOf(plus(about, n)), of(era))
				got, e := pivot.Near(field, of(era), wideOf(about))
				if e != want || e != api.OK && got != (api.Wide{}) {
					t.Errorf("Near(%s, %d, least and %d) = %s, %d; want %d", bigOf(field), era, era/2+by, bigOf(got), e, want)
				}
				checkNear(t, bigOf(field), big.NewInt(int64(era)), about)
			}
		}
	}
}

// P18.2: near the greatest Wide just those fields have a number whose number fits; that the era itself goes on beyond it is no fault.
func TestNumberOver(t *testing.T) {
	for _, era := range []int{1, 2, 3, 4, 5, 10, 11, 24} {
		for by := range era + 3 {
			about := plus(bigOf(most), -by)
			for n := -era / 2; n < (era+1)/2; n++ {
				number := plus(about, n)
				field := new(big.Int).Mod(number, big.NewInt(int64(era)))
				got, e := pivot.Near(wideOf(field), of(era), wideOf(about))
				if fits(number) && (got != wideOf(number) || e != api.OK) {
					t.Errorf("Near(%s, %d, %s) = %s, %d; want %s", field, era, about, bigOf(got), e, number)
				}
				if !fits(number) && (got != (api.Wide{}) || e != api.ErrOver) {
					t.Errorf("Near(%s, %d, %s) = %s, %d; want ErrOver", field, era, about, bigOf(got), e)
				}
			}
		}
	}
}

// P18.2: eras nearly as great as a Wide, about pivots everywhere: nothing between wraps.
func TestGreatEras(t *testing.T) {
	near := map[api.Errno]int{}
	eras := []*big.Int{bigOf(most), plus(bigOf(most), -1), plus(bigOf(most), -2), power(126, -1), power(126, 0), power(126, 1), power(125, 1), power(64, 0), power(64, -1), power(63, 1)}
	for _, era := range eras {
		half := new(big.Int).Rsh(era, 1)
		for _, mid := range []*big.Int{
			big.NewInt(0), half, new(big.Int).Neg(half), era, new(big.Int).Neg(era), new(big.Int).Add(bigOf(least), half), new(big.Int).Sub(bigOf(most), half), bigOf(least), bigOf(most),
		} {
			for by := -2; by <= 2; by++ {
				about := plus(mid, by)
				if !fits(about) {
					continue
				}
				low := new(big.Int).Sub(about, half)
				for more := -2; more <= 2; more++ {
					for _, n := range []*big.Int{big.NewInt(0), era, half, low, new(big.Int).Add(low, era), about} {
						near[checkNear(t, new(big.Int).Mod(plus(n, more), era), era, about)]++
					}
				}
			}
		}
	}
	checkErrors(t, near, api.OK, api.ErrOver)
}

// P18.2: as the pivot goes on by one, just one field's number goes on, by an era.
func TestPivotGoesOn(t *testing.T) {
	for _, era := range []int{1, 2, 7, 10, 13} {
		for about := -30; about < 30; about++ {
			moved := 0
			for field := range era {
				a, e := pivot.Near(of(field), of(era), of(about))
				b, f := pivot.Near(of(field), of(era), of(about+1))
				if e != api.OK || f != api.OK {
					t.Fatalf("Near(%d, %d, %d and 1 more): %d, %d", field, era, about, e, f)
				}
				if a == b {
					continue
				}
				moved++
				if by := new(big.Int).Sub(bigOf(b), bigOf(a)); by.Cmp(big.NewInt(int64(era))) != 0 {
					t.Errorf("field %d of %d went on by %s", field, era, by)
				}
			}
			if moved != 1 {
				t.Errorf("about %d: %d of %d fields went on", about, moved, era)
			}
		}
	}
}

// P18.1, P18.2: numbers of all of a Wide's sizes, of both signs, by eras of all sizes.
func TestEverywhere(t *testing.T) {
	fold, near := map[api.Errno]int{}, map[api.Errno]int{}
	for i := uint(0); i < 128; i += 3 {
		for j := uint(0); j < 128; j += 5 {
			for by := -1; by <= 1; by++ {
				n, era := power(i, by), power(j, 1-by)
				checkAll(t, n, era, new(big.Int).Neg(n), fold, near)
				checkAll(t, new(big.Int).Neg(n), era, n, fold, near)
				checkAll(t, n, era, bigOf(least), fold, near)
				checkAll(t, n, era, bigOf(most), fold, near)
				checkAll(t, n, new(big.Int).Neg(era), n, fold, near)
			}
		}
	}
	checkErrors(t, fold, api.OK, api.ErrZero)
	checkErrors(t, near, api.OK, api.ErrZero, api.ErrArg, api.ErrOver)
}

// drawn answers a drawn number of any size.
func drawn(r *rand.Rand) *big.Int {
	return new(big.Int).Rsh(bigOf(api.Wide{Hi: int64(r.Uint64()), Lo: r.Uint64()}), uint(r.IntN(127)))
}

// P18.1, P18.2: drawn numbers, the same ones each time, of all sizes and near a Wide's ends.
func TestDrawn(t *testing.T) {
	r := rand.New(rand.NewPCG(18, 1))
	fold, near := map[api.Errno]int{}, map[api.Errno]int{}
	for range 8000 {
		checkAll(t, drawn(r), drawn(r), drawn(r), fold, near)
		era := plus(new(big.Int).Abs(drawn(r)), 1)
		checkAll(t, drawn(r), era, drawn(r), fold, near)
		half := new(big.Int).Rsh(era, 1)
		checkAll(t, drawn(r), era, plus(new(big.Int).Add(bigOf(least), half), r.IntN(9)-4), fold, near)
		checkAll(t, plus(bigOf(most), -r.IntN(9)), era, plus(new(big.Int).Sub(bigOf(most), half), r.IntN(9)-4), fold, near)
	}
	checkErrors(t, fold, api.OK, api.ErrZero)
	checkErrors(t, near, api.OK, api.ErrZero, api.ErrArg, api.ErrOver)
}

// R5: many ask at once, refused ones between, and each has its answer.
func TestAtOnce(t *testing.T) {
	var together sync.WaitGroup
	faults := make([]string, 16)
	for n := range faults {
		together.Go(func() {
			for i := range 300 {
				field, era, about := big.NewInt(int64(i%13-1)), big.NewInt(int64(i%11)), big.NewInt(int64(i*n-700))
				want, e := wantNear(field, era, about)
				if got, f := pivot.Near(wideOf(field), wideOf(era), wideOf(about)); got != wideOf(want) || f != e {
					faults[n] = fmt.Sprint("Near ", field, era, about, got, f)
				}
				want, e = wantFold(about, era)
				if got, f := pivot.Fold(wideOf(about), wideOf(era)); got != wideOf(want) || f != e {
					faults[n] = fmt.Sprint("Fold ", about, era, got, f)
				}
			}
		})
	}
	together.Wait()
	for _, fault := range faults {
		if fault != "" {
			t.Error(fault)
		}
	}
}
