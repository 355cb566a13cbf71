package ratio

import (
	"math"
	"math/big"
	"math/rand/v2"
	"testing"

	"epact/api"
	"epact/wide"
)

var (
	none  = api.Wide{}
	least = api.Wide{Hi: math.MinInt64}
	most  = api.Wide{Hi: math.MaxInt64, Lo: math.MaxUint64}
)

// of answers num by den, as they are.
func of(num, den int) api.Ratio {
	return api.Ratio{Num: wide.Of(num), Den: wide.Of(den)}
}

// raw answers num by den, as they are.
func raw(num, den api.Wide) api.Ratio {
	return api.Ratio{Num: num, Den: den}
}

// two answers 2^n, for n from 0 to 126.
func two(n int) api.Wide {
	if n >= 64 {
		return api.Wide{Hi: 1 << (n - 64)}
	}
	return api.Wide{Lo: 1 << n}
}

// near answers a and n together, which must fit.
func near(a api.Wide, n int) api.Wide {
	sum, e := wide.Add(a, wide.Of(n))
	if e != api.OK {
		panic("near: it does not fit")
	}
	return sum
}

// minus answers as much below 0.
func minus(a api.Wide) api.Wide {
	n, e := wide.Neg(a)
	if e != api.OK {
		panic("minus: it does not fit")
	}
	return n
}

// edgeNums are those about which signs, words and ends turn.
func edgeNums() []api.Wide {
	list := []api.Wide{least, near(least, 1), near(least, 2), none, near(most, -2), near(most, -1), most}
	for _, n := range []int{1, 2, 3, 4, 6, 12, 1 << 32, 1000000000000000000, math.MaxInt} {
		list = append(list, wide.Of(n), wide.Of(-n))
	}
	for _, n := range []int{61, 62, 63, 64, 65, 125, 126} {
		a := two(n)
		list = append(list, a, near(a, 1), near(a, -1), minus(a), minus(near(a, 1)), minus(near(a, -1)))
	}
	return list
}

// edgeRatios are all edges by all edges that are above 0, most of them not made.
func edgeRatios() []api.Ratio {
	var list []api.Ratio
	for _, num := range edgeNums() {
		for _, den := range edgeNums() {
			if wide.Cmp(den, none) > 0 {
				list = append(list, raw(num, den))
			}
		}
	}
	return list
}

// drawnNum draws a Wide of any length on either side of 0.
func drawnNum(source *rand.Rand) api.Wide {
	a := api.Wide{Hi: int64(source.Uint64()), Lo: source.Uint64()}
	for range source.IntN(128) {
		a.Lo = a.Lo>>1 | uint64(a.Hi)<<63
		a.Hi >>= 1
	}
	return a
}

// drawn answers n Ratios, made or not; the same ones for the same seed.
func drawn(seed uint64, n int) []api.Ratio {
	source := rand.New(rand.NewPCG(seed, 3))
	list := make([]api.Ratio, n)
	for i := range list {
		den := drawnNum(source)
		for wide.Cmp(den, none) <= 0 {
			den = drawnNum(source)
		}
		list[i] = raw(drawnNum(source), den)
	}
	return list
}

// eachPair calls check with each edge against some of the edges (all of them take too long), and with drawn pairs.
func eachPair(check func(a, b api.Ratio)) {
	const stride = 61
	list := edgeRatios()
	for i, a := range list {
		for j := i % stride; j < len(list); j += stride {
			check(a, list[j])
		}
	}
	others := drawn(2, 20000)
	for i, a := range drawn(1, 20000) {
		check(a, others[i])
		check(a, a)
	}
}

func bigOf(a api.Wide) *big.Int {
	n := big.NewInt(a.Hi)
	n.Lsh(n, 64)
	return n.Add(n, new(big.Int).SetUint64(a.Lo))
}

func ratOf(a api.Ratio) *big.Rat {
	return new(big.Rat).SetFrac(bigOf(a.Num), bigOf(a.Den))
}

func fits(n *big.Int) bool {
	return n.Cmp(bigOf(least)) >= 0 && n.Cmp(bigOf(most)) <= 0
}

func bigMul(a, b api.Wide) *big.Int {
	return new(big.Int).Mul(bigOf(a), bigOf(b))
}

// madeOf tells whether a is num by den without a divisor in common; den is above 0.
func madeOf(a api.Ratio, num, den *big.Int) bool {
	want := new(big.Rat).SetFrac(num, den)
	return bigOf(a.Num).Cmp(want.Num()) == 0 && bigOf(a.Den).Cmp(want.Denom()) == 0
}

// madeOrOver tells whether a and e are what a call ought to answer that makes num by den after steps.
func madeOrOver(a api.Ratio, e api.Errno, num, den *big.Int, steps ...*big.Int) bool {
	for _, n := range append(steps, num, den) {
		if !fits(n) {
			return e == api.ErrOver && a == api.Ratio{}
		}
	}
	return e == api.OK && madeOf(a, num, den)
}

// P3.1
func TestMakeTable(t *testing.T) {
	for _, c := range []struct {
		num, den api.Wide
		want     api.Ratio
	}{
		{wide.Of(6), wide.Of(4), of(3, 2)},
		{wide.Of(3), wide.Of(2), of(3, 2)},
		{wide.Of(-6), wide.Of(4), of(-3, 2)},
		{wide.Of(-4), wide.Of(6), of(-2, 3)},
		{wide.Of(4), wide.Of(6), of(2, 3)},
		{wide.Of(6), wide.Of(3), of(2, 1)},
		{wide.Of(-6), wide.Of(3), of(-2, 1)},
		{wide.Of(7), wide.Of(7), of(1, 1)},
		{wide.Of(-7), wide.Of(7), of(-1, 1)},
		{wide.Of(-1), wide.Of(9), of(-1, 9)},
		{wide.Of(-9), wide.Of(1), of(-9, 1)},
		{none, wide.Of(9), of(0, 1)},
		{none, wide.Of(1), of(0, 1)},
		{none, most, of(0, 1)},
		{most, wide.Of(1), raw(most, wide.Of(1))},
		{most, most, of(1, 1)},
		{most, wide.Of(2), raw(most, wide.Of(2))},
		{near(most, -1), wide.Of(2), raw(near(two(126), -1), wide.Of(1))},
		{wide.Of(1), most, raw(wide.Of(1), most)},
		{wide.Of(-1), most, raw(wide.Of(-1), most)},
		{near(least, 1), most, of(-1, 1)},
		{least, wide.Of(1), raw(least, wide.Of(1))},
		{least, wide.Of(2), raw(minus(two(126)), wide.Of(1))},
		{least, wide.Of(3), raw(least, wide.Of(3))},
		{least, wide.Of(12), raw(minus(two(125)), wide.Of(3))},
		{least, two(126), of(-2, 1)},
		{least, most, raw(least, most)},
		{two(126), two(64), raw(two(62), wide.Of(1))},
		{two(64), two(126), raw(wide.Of(1), two(62))},
	} {
		if a, e := Make(c.num, c.den); a != c.want || e != api.OK {
			t.Errorf("Make(%v, %v) = %v, %d; want %v", c.num, c.den, a, e, c.want)
		}
	}
}

// P3.1: a den that is not above 0, whatever num is.
func TestMakeByZero(t *testing.T) {
	for _, den := range []api.Wide{none, wide.Of(-1), wide.Of(-2), wide.Of(-9), {Hi: -1}, near(least, 1), least} {
		for _, num := range append(edgeNums(), den) {
			if a, e := Make(num, den); a != (api.Ratio{}) || e != api.ErrZero {
				t.Errorf("Make(%v, %v) = %v, %d; want ErrZero", num, den, a, e)
			}
		}
	}
}

// P3.1
func TestMakeAgainstBig(t *testing.T) {
	for _, c := range append(edgeRatios(), drawn(3, 20000)...) {
		if a, e := Make(c.Num, c.Den); e != api.OK || !madeOf(a, bigOf(c.Num), bigOf(c.Den)) {
			t.Fatalf("Make(%v, %v) = %v, %d", c.Num, c.Den, a, e)
		}
	}
}

// P3.1: drawn numbers seldom have a great divisor in common, so one is put in.
func TestMakeWithDivisor(t *testing.T) {
	source := rand.New(rand.NewPCG(4, 3))
	for range 20000 {
		d := wide.Of(int(source.Uint64()>>2>>source.IntN(62)) + 1)
		times, _, _ := wide.Div(drawnNum(source), d)
		num, e := wide.Mul(times, d)
		if e != api.OK {
			continue // Rounded down, it came below the least Wide.
		}
		den, e := wide.Mul(wide.Of(source.IntN(math.MaxInt)+1), d)
		if e != api.OK {
			t.Fatalf("%v: %d", d, e)
		}
		if a, e := Make(num, den); e != api.OK || !madeOf(a, bigOf(num), bigOf(den)) {
			t.Fatalf("Make(%v, %v) = %v, %d", num, den, a, e)
		}
	}
}

// twoCase is a call with two fractions, and what it ought to answer; both ways round.
type twoCase struct {
	a, b, want api.Ratio
	e          api.Errno
}

func checkTwo(t *testing.T, name string, call func(a, b api.Ratio) (api.Ratio, api.Errno), cases []twoCase) {
	t.Helper()
	for _, c := range cases {
		if got, e := call(c.a, c.b); got != c.want || e != c.e {
			t.Errorf("%s(%v, %v) = %v, %d; want %v, %d", name, c.a, c.b, got, e, c.want, c.e)
		}
		if got, e := call(c.b, c.a); got != c.want || e != c.e {
			t.Errorf("%s(%v, %v) = %v, %d; want %v, %d", name, c.b, c.a, got, e, c.want, c.e)
		}
	}
}

// P3.2
func TestAddTable(t *testing.T) {
	one := wide.Of(1)
	checkTwo(t, "Add", Add, []twoCase{
		{of(1, 6), of(-1, 2), of(-1, 3), api.OK},
		{of(1, 2), of(1, 3), of(5, 6), api.OK},
		{of(1, 2), of(-1, 2), of(0, 1), api.OK},
		{of(-1, 2), of(-1, 2), of(-1, 1), api.OK},
		{of(0, 1), of(0, 1), of(0, 1), api.OK},
		{of(0, 5), of(0, 7), of(0, 1), api.OK},
		{of(2, 4), of(3, 6), of(1, 1), api.OK},
		{of(7, 1), of(0, 1), of(7, 1), api.OK},

		// Num times Den.
		{raw(near(two(126), -1), one), of(0, 2), raw(near(two(126), -1), one), api.OK},
		{raw(two(126), one), of(0, 2), api.Ratio{}, api.ErrOver},
		{raw(minus(two(126)), one), of(0, 2), raw(minus(two(126)), one), api.OK},
		{raw(near(minus(two(126)), -1), one), of(0, 2), api.Ratio{}, api.ErrOver},
		{raw(near(minus(two(126)), -1), one), of(2, 2), api.Ratio{}, api.ErrOver},
		{raw(most, one), of(0, 1), raw(most, one), api.OK},
		{raw(least, one), of(0, 1), raw(least, one), api.OK},
		{raw(most, one), of(-2, 2), api.Ratio{}, api.ErrOver},
		{raw(least, one), of(0, 3), api.Ratio{}, api.ErrOver},

		// Den times Den.
		{raw(one, two(64)), raw(one, two(62)), raw(wide.Of(5), two(64)), api.OK},
		{raw(none, two(64)), raw(none, two(62)), of(0, 1), api.OK},
		{raw(none, two(64)), raw(none, two(63)), api.Ratio{}, api.ErrOver},
		{raw(wide.Of(2), two(64)), raw(wide.Of(2), two(63)), api.Ratio{}, api.ErrOver},
		{raw(none, most), of(0, 1), of(0, 1), api.OK},
		{raw(none, most), of(0, 2), api.Ratio{}, api.ErrOver},
		{raw(one, most), of(0, 1), raw(one, most), api.OK},
		{raw(one, most), raw(minus(one), most), api.Ratio{}, api.ErrOver},

		// The sum.
		{raw(near(two(126), -1), one), of(1, 2), raw(most, wide.Of(2)), api.OK},
		{raw(near(two(126), -1), one), of(2, 2), api.Ratio{}, api.ErrOver},
		{raw(two(125), wide.Of(2)), raw(two(125), wide.Of(2)), api.Ratio{}, api.ErrOver},
		{raw(two(125), wide.Of(2)), raw(near(two(125), -1), wide.Of(2)), raw(near(two(126), -1), wide.Of(2)), api.OK},
		{raw(minus(two(125)), wide.Of(2)), raw(minus(two(125)), wide.Of(2)), raw(minus(two(125)), one), api.OK},
		{raw(minus(two(125)), wide.Of(2)), raw(near(minus(two(125)), -2), wide.Of(2)), api.Ratio{}, api.ErrOver},
		{raw(most, one), of(1, 1), api.Ratio{}, api.ErrOver},
		{raw(near(most, -1), one), of(1, 1), raw(most, one), api.OK},
		{raw(least, one), of(-1, 1), api.Ratio{}, api.ErrOver},
		{raw(near(least, 1), one), of(-1, 1), raw(least, one), api.OK},
		{raw(least, one), raw(most, one), of(-1, 1), api.OK},
		{raw(one, most), of(1, 1), api.Ratio{}, api.ErrOver},
		{raw(minus(one), most), of(1, 1), raw(near(most, -1), most), api.OK},
	})
}

// P3.2
func TestAddAgainstBig(t *testing.T) {
	eachPair(func(a, b api.Ratio) {
		x, y := bigMul(a.Num, b.Den), bigMul(b.Num, a.Den)
		sum := new(big.Int).Add(x, y)
		if got, e := Add(a, b); !madeOrOver(got, e, sum, bigMul(a.Den, b.Den), x, y) {
			t.Fatalf("Add(%v, %v) = %v, %d", a, b, got, e)
		}
	})
}

// P3.2
func TestMulTable(t *testing.T) {
	one := wide.Of(1)
	checkTwo(t, "Mul", Mul, []twoCase{
		{of(2, 3), of(3, 4), of(1, 2), api.OK},
		{of(-2, 3), of(3, 4), of(-1, 2), api.OK},
		{of(-2, 3), of(-3, 4), of(1, 2), api.OK},
		{of(2, 4), of(4, 2), of(1, 1), api.OK},
		{of(0, 3), of(-3, 4), of(0, 1), api.OK},
		{of(5, 7), of(1, 1), of(5, 7), api.OK},

		// Num times Num.
		{raw(two(126), wide.Of(2)), of(2, 1), api.Ratio{}, api.ErrOver},
		{raw(near(two(126), -1), wide.Of(2)), of(2, 1), raw(near(two(126), -1), one), api.OK},
		{raw(minus(two(126)), wide.Of(2)), of(2, 1), raw(minus(two(126)), one), api.OK},
		{raw(near(minus(two(126)), -1), wide.Of(2)), of(2, 1), api.Ratio{}, api.ErrOver},
		{raw(most, one), of(1, 1), raw(most, one), api.OK},
		{raw(most, one), of(-1, 1), raw(near(least, 1), one), api.OK},
		{raw(most, one), of(2, 2), api.Ratio{}, api.ErrOver},
		{raw(least, one), of(1, 1), raw(least, one), api.OK},
		{raw(least, one), of(-1, 1), api.Ratio{}, api.ErrOver},
		{raw(least, wide.Of(2)), of(-1, 1), api.Ratio{}, api.ErrOver},
		{raw(least, one), of(0, 1), of(0, 1), api.OK},

		// Den times Den.
		{raw(wide.Of(2), two(64)), raw(one, two(63)), api.Ratio{}, api.ErrOver},
		{raw(wide.Of(2), two(63)), raw(wide.Of(2), two(63)), raw(one, two(124)), api.OK},
		{raw(one, two(64)), raw(one, two(62)), raw(one, two(126)), api.OK},
		{raw(none, two(64)), raw(one, two(63)), api.Ratio{}, api.ErrOver},
		{raw(most, most), of(1, 1), of(1, 1), api.OK},
		{raw(one, most), of(1, 1), raw(one, most), api.OK},
		{raw(one, most), of(2, 2), api.Ratio{}, api.ErrOver},
		{raw(none, most), of(0, 2), api.Ratio{}, api.ErrOver},
		{raw(one, most), raw(most, one), of(1, 1), api.OK},
		{raw(wide.Of(2), most), raw(most, wide.Of(2)), api.Ratio{}, api.ErrOver},
	})
}

// P3.2
func TestMulAgainstBig(t *testing.T) {
	eachPair(func(a, b api.Ratio) {
		if got, e := Mul(a, b); !madeOrOver(got, e, bigMul(a.Num, b.Num), bigMul(a.Den, b.Den)) {
			t.Fatalf("Mul(%v, %v) = %v, %d", a, b, got, e)
		}
	})
}

// P3.3: each row's fractions are the same, made or not, and less than those of the next.
func TestCmpTable(t *testing.T) {
	one := wide.Of(1)
	rising := [][]api.Ratio{
		{raw(least, one)},
		{raw(near(least, 1), one)},
		{raw(least, wide.Of(2)), raw(minus(two(126)), one)},
		{of(-2, 1), raw(least, two(126)), of(-6, 3)},
		{raw(least, most)},
		{of(-1, 1), raw(near(least, 1), most), of(-7, 7)},
		{raw(near(least, 2), most)},
		{of(-3, 4), of(-9, 12)},
		{of(-2, 3)},
		{raw(minus(one), near(most, -1))},
		{raw(minus(one), most)},
		{of(0, 1), of(0, 9), raw(none, most)},
		{raw(one, most)},
		{raw(one, near(most, -1))},
		{of(2, 3), of(4, 6)},
		{of(3, 4)},
		{raw(near(most, -2), near(most, -1))},
		{raw(near(most, -1), most)},
		{of(1, 1), raw(most, most), of(9, 9)},
		{raw(most, near(most, -1))},
		{raw(near(most, -1), near(most, -2))},
		{of(7, 2), of(14, 4)},
		{raw(near(most, -1), wide.Of(2))},
		{raw(most, wide.Of(2))},
		{raw(near(most, -1), one)},
		{raw(most, one)},
	}
	for i, row := range rising {
		for _, a := range row {
			for j, others := range rising {
				for _, b := range others {
					want := 0
					if i < j {
						want = -1
					} else if i > j {
						want = 1
					}
					if c := Cmp(a, b); c != want {
						t.Errorf("Cmp(%v, %v) = %d; want %d", a, b, c, want)
					}
				}
			}
		}
	}
}

// P3.3
func TestCmpAgainstBig(t *testing.T) {
	eachPair(func(a, b api.Ratio) {
		if c := Cmp(a, b); c != bigMul(a.Num, b.Den).Cmp(bigMul(b.Num, a.Den)) {
			t.Fatalf("Cmp(%v, %v) = %d", a, b, c)
		}
	})
}

// P3.3: fractions with the same whole, so that only what is left tells them apart.
func TestCmpOfNeighbours(t *testing.T) {
	for _, a := range append(edgeRatios(), drawn(5, 5000)...) {
		for _, more := range []int{-1, 0, 1} {
			num, e := wide.Add(a.Num, wide.Of(more))
			den, e2 := wide.Add(a.Den, wide.Of(more))
			if e != api.OK || e2 != api.OK || den == none {
				continue
			}
			for _, b := range []api.Ratio{raw(num, a.Den), raw(a.Num, den), raw(num, den)} {
				if c := Cmp(a, b); c != ratOf(a).Cmp(ratOf(b)) {
					t.Fatalf("Cmp(%v, %v) = %d", a, b, c)
				}
			}
		}
	}
}

// P3.3
func TestFloorAndCeilTable(t *testing.T) {
	one := wide.Of(1)
	for _, c := range []struct {
		a           api.Ratio
		floor, ceil api.Wide
	}{
		{of(-1, 2), wide.Of(-1), none},
		{of(1, 2), none, one},
		{of(7, 2), wide.Of(3), wide.Of(4)},
		{of(-7, 2), wide.Of(-4), wide.Of(-3)},
		{of(-6, 3), wide.Of(-2), wide.Of(-2)},
		{of(6, 3), wide.Of(2), wide.Of(2)},
		{of(6, 4), one, wide.Of(2)},
		{of(-2, 1), wide.Of(-2), wide.Of(-2)},
		{of(0, 1), none, none},
		{of(0, 9), none, none},
		{of(1, 9), none, one},
		{of(8, 9), none, one},
		{of(-8, 9), wide.Of(-1), none},
		{of(-9, 9), wide.Of(-1), wide.Of(-1)},
		{of(-10, 9), wide.Of(-2), wide.Of(-1)},
		{raw(one, most), none, one},
		{raw(wide.Of(-1), most), wide.Of(-1), none},
		{raw(most, one), most, most},
		{raw(most, most), one, one},
		{raw(near(most, -1), most), none, one},
		{raw(most, near(most, -1)), one, wide.Of(2)},
		{raw(most, wide.Of(2)), near(two(126), -1), two(126)},
		{raw(least, one), least, least},
		{raw(least, wide.Of(2)), minus(two(126)), minus(two(126))},
		{raw(near(least, 1), wide.Of(2)), minus(two(126)), near(minus(two(126)), 1)},
		{raw(least, most), wide.Of(-2), wide.Of(-1)},
		{raw(near(least, 1), most), wide.Of(-1), wide.Of(-1)},
		{raw(near(least, 2), most), wide.Of(-1), none},
		// Whole numbers beyond one word, and what is just beside them.
		{raw(two(65), wide.Of(2)), two(64), two(64)},
		{raw(near(two(65), -1), wide.Of(2)), near(two(64), -1), two(64)},
		{raw(near(two(65), 1), wide.Of(2)), two(64), near(two(64), 1)},
		{raw(near(minus(two(65)), -1), wide.Of(2)), near(minus(two(64)), -1), minus(two(64))},
	} {
		if a := Floor(c.a); a != c.floor {
			t.Errorf("Floor(%v) = %v; want %v", c.a, a, c.floor)
		}
		if a := Ceil(c.a); a != c.ceil {
			t.Errorf("Ceil(%v) = %v; want %v", c.a, a, c.ceil)
		}
	}
}

// P3.3
func TestFloorAndCeilAgainstBig(t *testing.T) {
	for _, a := range append(edgeRatios(), drawn(6, 20000)...) {
		// Above 0 the Euclidean quotient is the one that is rounded down.
		floor, left := new(big.Int).DivMod(bigOf(a.Num), bigOf(a.Den), new(big.Int))
		if got := Floor(a); bigOf(got).Cmp(floor) != 0 {
			t.Fatalf("Floor(%v) = %v; want %v", a, got, floor)
		}
		ceil := floor
		if left.Sign() != 0 {
			ceil = new(big.Int).Add(floor, big.NewInt(1))
		}
		if got := Ceil(a); bigOf(got).Cmp(ceil) != 0 {
			t.Fatalf("Ceil(%v) = %v; want %v", a, got, ceil)
		}
	}
}
