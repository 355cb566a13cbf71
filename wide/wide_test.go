package wide

import (
	"math"
	"math/big"
	"math/rand/v2"
	"testing"

	"epact/api"
)

var (
	none  = api.Wide{}
	least = api.Wide{Hi: math.MinInt64}
	most  = api.Wide{Hi: math.MaxInt64, Lo: math.MaxUint64}
)

// edgeWords are those about which carries, borrows and signs turn.
var edgeWords = []uint64{0, 1, 2, 3, 1 << 32, 1<<63 - 1, 1 << 63, 1<<63 + 1, 1<<64 - 2, 1<<64 - 1}

func edges() []api.Wide {
	var list []api.Wide
	for _, hi := range edgeWords {
		for _, lo := range edgeWords {
			list = append(list, api.Wide{Hi: int64(hi), Lo: lo})
		}
	}
	return list
}

// drawn answers n Wides of all lengths on both sides of 0; the same ones for the same seed.
func drawn(seed uint64, n int) []api.Wide {
	source := rand.New(rand.NewPCG(seed, 2))
	list := make([]api.Wide, n)
	for i := range list {
		a := api.Wide{Hi: int64(source.Uint64()), Lo: source.Uint64()}
		for range source.IntN(128) {
			a.Lo = a.Lo>>1 | uint64(a.Hi)<<63
			a.Hi >>= 1
		}
		list[i] = a
	}
	return list
}

// eachPair calls check with every pair of edges, and with drawn pairs.
func eachPair(check func(a, b api.Wide)) {
	for _, a := range edges() {
		for _, b := range edges() {
			check(a, b)
		}
	}
	others := drawn(2, 20000)
	for i, a := range drawn(1, 20000) {
		check(a, others[i])
	}
}

func bigOf(a api.Wide) *big.Int {
	n := big.NewInt(a.Hi)
	n.Lsh(n, 64)
	return n.Add(n, new(big.Int).SetUint64(a.Lo))
}

func fits(n *big.Int) bool {
	return n.Cmp(bigOf(least)) >= 0 && n.Cmp(bigOf(most)) <= 0
}

// sameOrOver tells whether a and e are what a call ought to answer whose exact answer is want.
func sameOrOver(a api.Wide, e api.Errno, want *big.Int) bool {
	if fits(want) {
		return e == api.OK && bigOf(a).Cmp(want) == 0
	}
	return e == api.ErrOver && a == none
}

// P2.1
func TestOf(t *testing.T) {
	for _, c := range []struct {
		n    int
		want api.Wide
	}{
		{0, none},
		{1, api.Wide{Lo: 1}},
		{-1, api.Wide{Hi: -1, Lo: math.MaxUint64}},
		{-7, api.Wide{Hi: -1, Lo: math.MaxUint64 - 6}},
		{math.MaxInt, api.Wide{Lo: 1<<63 - 1}},
		{math.MinInt, api.Wide{Hi: -1, Lo: 1 << 63}},
	} {
		if a := Of(c.n); a != c.want {
			t.Errorf("Of(%d) = %v; want %v", c.n, a, c.want)
		}
	}
}

// P2.1
func TestInt(t *testing.T) {
	for _, c := range []struct {
		a api.Wide
		n int
		e api.Errno
	}{
		{none, 0, api.OK},
		{api.Wide{Lo: 5}, 5, api.OK},
		{api.Wide{Hi: -1, Lo: math.MaxUint64}, -1, api.OK},
		{api.Wide{Lo: 1<<63 - 1}, math.MaxInt, api.OK},
		{api.Wide{Lo: 1 << 63}, 0, api.ErrOver},
		{api.Wide{Lo: math.MaxUint64}, 0, api.ErrOver},
		{api.Wide{Hi: 1}, 0, api.ErrOver},
		{api.Wide{Hi: 1, Lo: 7}, 0, api.ErrOver},
		{api.Wide{Hi: -1, Lo: 1 << 63}, math.MinInt, api.OK},
		{api.Wide{Hi: -1, Lo: 1<<63 - 1}, 0, api.ErrOver},
		{api.Wide{Hi: -1}, 0, api.ErrOver},
		{api.Wide{Hi: -2, Lo: math.MaxUint64}, 0, api.ErrOver},
		{least, 0, api.ErrOver},
		{most, 0, api.ErrOver},
	} {
		if n, e := Int(c.a); n != c.n || e != c.e {
			t.Errorf("Int(%v) = %d, %d; want %d, %d", c.a, n, e, c.n, c.e)
		}
	}
}

// P2.1
func TestIntAgainstBig(t *testing.T) {
	for _, a := range append(edges(), drawn(3, 20000)...) {
		want := bigOf(a)
		n, e := Int(a)
		if want.IsInt64() != (e == api.OK) {
			t.Fatalf("Int(%v) = %d, %d", a, n, e)
		}
		if e == api.OK && (int64(n) != want.Int64() || Of(n) != a) {
			t.Fatalf("Int(%v) = %d; Of that: %v", a, n, Of(n))
		}
		if e != api.OK && (e != api.ErrOver || n != 0) {
			t.Fatalf("Int(%v) = %d, %d", a, n, e)
		}
	}
}

// P2.1
func TestCmpTable(t *testing.T) {
	rising := []api.Wide{least, {Hi: math.MinInt64, Lo: 1}, {Hi: -2}, {Hi: -1}, Of(math.MinInt), Of(-2), Of(-1), none, Of(1), Of(math.MaxInt), {Lo: math.MaxUint64}, {Hi: 1}, {Hi: 1, Lo: 1}, {Hi: math.MaxInt64}, most}
	for i, a := range rising {
		for j, b := range rising {
			want := 0
			if i < j {
				want = -1
			} else if i > j {
				want = 1
			}
			if c := Cmp(a, b); c != want {
				t.Errorf("Cmp(%v, %v) = %d; want %d", a, b, c, want)
			}
		}
	}
}

// P2.1
func TestCmpAgainstBig(t *testing.T) {
	eachPair(func(a, b api.Wide) {
		if c := Cmp(a, b); c != bigOf(a).Cmp(bigOf(b)) {
			t.Fatalf("Cmp(%v, %v) = %d", a, b, c)
		}
	})
}

// P2.2
func TestNeg(t *testing.T) {
	for _, c := range []struct {
		a, want api.Wide
		e       api.Errno
	}{
		{none, none, api.OK},
		{Of(1), Of(-1), api.OK},
		{Of(-7), Of(7), api.OK},
		{Of(math.MinInt), api.Wide{Lo: 1 << 63}, api.OK},
		{api.Wide{Hi: 1}, api.Wide{Hi: -1}, api.OK},
		{most, api.Wide{Hi: math.MinInt64, Lo: 1}, api.OK},
		{api.Wide{Hi: math.MinInt64, Lo: 1}, most, api.OK},
		{least, none, api.ErrOver},
	} {
		if a, e := Neg(c.a); a != c.want || e != c.e {
			t.Errorf("Neg(%v) = %v, %d; want %v, %d", c.a, a, e, c.want, c.e)
		}
	}
	for _, a := range append(edges(), drawn(4, 20000)...) {
		if n, e := Neg(a); !sameOrOver(n, e, new(big.Int).Neg(bigOf(a))) {
			t.Fatalf("Neg(%v) = %v, %d", a, n, e)
		}
	}
}

// twoCase is a call with two numbers, and what it ought to answer.
type twoCase struct {
	a, b, want api.Wide
	e          api.Errno
}

func checkTwo(t *testing.T, name string, call func(a, b api.Wide) (api.Wide, api.Errno), cases []twoCase) {
	t.Helper()
	for _, c := range cases {
		if got, e := call(c.a, c.b); got != c.want || e != c.e {
			t.Errorf("%s(%v, %v) = %v, %d; want %v, %d", name, c.a, c.b, got, e, c.want, c.e)
		}
	}
}

// P2.2
func TestAdd(t *testing.T) {
	checkTwo(t, "Add", Add, []twoCase{
		{Of(2), Of(3), Of(5), api.OK},
		{Of(2), Of(-3), Of(-1), api.OK},
		{Of(math.MaxInt), Of(1), api.Wide{Lo: 1 << 63}, api.OK},
		{Of(math.MinInt), Of(-1), api.Wide{Hi: -1, Lo: 1<<63 - 1}, api.OK},
		{api.Wide{Lo: math.MaxUint64}, Of(1), api.Wide{Hi: 1}, api.OK},
		{most, none, most, api.OK},
		{most, Of(1), none, api.ErrOver},
		{most, most, none, api.ErrOver},
		{most, Of(-1), api.Wide{Hi: math.MaxInt64, Lo: math.MaxUint64 - 1}, api.OK},
		{api.Wide{Hi: math.MaxInt64, Lo: math.MaxUint64 - 1}, Of(1), most, api.OK},
		{least, none, least, api.OK},
		{least, Of(-1), none, api.ErrOver},
		{least, least, none, api.ErrOver},
		{least, most, Of(-1), api.OK},
		{api.Wide{Hi: -1 << 62}, api.Wide{Hi: -1 << 62}, least, api.OK},
		{api.Wide{Hi: 1 << 62}, api.Wide{Hi: 1 << 62}, none, api.ErrOver},
	})
	eachPair(func(a, b api.Wide) {
		if sum, e := Add(a, b); !sameOrOver(sum, e, new(big.Int).Add(bigOf(a), bigOf(b))) {
			t.Fatalf("Add(%v, %v) = %v, %d", a, b, sum, e)
		}
	})
}

// P2.2
func TestSub(t *testing.T) {
	checkTwo(t, "Sub", Sub, []twoCase{
		{Of(2), Of(3), Of(-1), api.OK},
		{Of(-2), Of(-3), Of(1), api.OK},
		{api.Wide{Hi: 1}, Of(1), api.Wide{Lo: math.MaxUint64}, api.OK},
		{most, most, none, api.OK},
		{least, least, none, api.OK},
		{least, Of(1), none, api.ErrOver},
		{least, Of(-1), api.Wide{Hi: math.MinInt64, Lo: 1}, api.OK},
		{most, Of(-1), none, api.ErrOver},
		{none, least, none, api.ErrOver},
		{Of(-1), least, most, api.OK},
		{Of(-1), most, least, api.OK},
		{Of(-2), most, none, api.ErrOver},
		{least, most, none, api.ErrOver},
		{most, least, none, api.ErrOver},
	})
	eachPair(func(a, b api.Wide) {
		if diff, e := Sub(a, b); !sameOrOver(diff, e, new(big.Int).Sub(bigOf(a), bigOf(b))) {
			t.Fatalf("Sub(%v, %v) = %v, %d", a, b, diff, e)
		}
	})
}

// P2.2
func TestMul(t *testing.T) {
	checkTwo(t, "Mul", Mul, []twoCase{
		{Of(6), Of(7), Of(42), api.OK},
		{Of(-6), Of(7), Of(-42), api.OK},
		{Of(6), Of(-7), Of(-42), api.OK},
		{Of(-6), Of(-7), Of(42), api.OK},
		{none, least, none, api.OK},
		{Of(-1), none, none, api.OK},
		{least, Of(1), least, api.OK},
		{least, Of(-1), none, api.ErrOver},
		{most, Of(-1), api.Wide{Hi: math.MinInt64, Lo: 1}, api.OK},
		{most, Of(2), none, api.ErrOver},
		{most, Of(-2), none, api.ErrOver},
		{api.Wide{Hi: 1 << 62}, Of(2), none, api.ErrOver},
		{api.Wide{Hi: 1 << 62}, Of(-2), least, api.OK},
		{api.Wide{Hi: -1 << 62}, Of(2), least, api.OK},
		{api.Wide{Hi: -1 << 62}, Of(-2), none, api.ErrOver},
		{api.Wide{Hi: 1}, api.Wide{Hi: 1}, none, api.ErrOver},
		{api.Wide{Hi: 1}, api.Wide{Hi: -1}, none, api.ErrOver},
		{api.Wide{Hi: 1}, Of(math.MinInt), least, api.OK},
		{least, least, none, api.ErrOver},
		{most, most, none, api.ErrOver},
	})
	eachPair(func(a, b api.Wide) {
		if p, e := Mul(a, b); !sameOrOver(p, e, new(big.Int).Mul(bigOf(a), bigOf(b))) {
			t.Fatalf("Mul(%v, %v) = %v, %d", a, b, p, e)
		}
	})
}

// P2.3
func TestDivTable(t *testing.T) {
	for _, c := range []struct {
		a, d, q, r api.Wide
		e          api.Errno
	}{
		{Of(-7), Of(2), Of(-4), Of(1), api.OK},
		{Of(7), Of(2), Of(3), Of(1), api.OK},
		{Of(-8), Of(2), Of(-4), none, api.OK},
		{Of(-1), Of(10), Of(-1), Of(9), api.OK},
		{Of(1), Of(10), none, Of(1), api.OK},
		{none, Of(10), none, none, api.OK},
		{Of(-1), most, Of(-1), api.Wide{Hi: math.MaxInt64, Lo: math.MaxUint64 - 1}, api.OK},
		{least, Of(1), least, none, api.OK},
		{least, Of(2), api.Wide{Hi: -1 << 62}, none, api.OK},
		{least, most, Of(-2), api.Wide{Hi: math.MaxInt64, Lo: math.MaxUint64 - 1}, api.OK},
		{most, Of(1), most, none, api.OK},
		{most, most, Of(1), none, api.OK},
		{most, Of(2), api.Wide{Hi: 1<<62 - 1, Lo: math.MaxUint64}, Of(1), api.OK},
		{Of(7), none, none, none, api.ErrZero},
		{none, none, none, none, api.ErrZero},
		{most, Of(-1), none, none, api.ErrZero},
		{least, Of(-1), none, none, api.ErrZero},
		{least, least, none, none, api.ErrZero},
	} {
		if q, r, e := Div(c.a, c.d); q != c.q || r != c.r || e != c.e {
			t.Errorf("Div(%v, %v) = %v, %v, %d; want %v, %v, %d", c.a, c.d, q, r, e, c.q, c.r, c.e)
		}
	}
}

// checkQuotient holds what a division of the product answered against what it ought to answer.
func checkQuotient(t *testing.T, product *big.Int, d, q, r api.Wide, e api.Errno) {
	t.Helper()
	if d.Hi < 0 || d == none {
		if q != none || r != none || e != api.ErrZero {
			t.Fatalf("%v by %v = %v, %v, %d; want ErrZero", product, d, q, r, e)
		}
		return
	}
	// Above 0 the Euclidean quotient is the one that is rounded down.
	wantQ, wantR := new(big.Int).DivMod(product, bigOf(d), new(big.Int))
	if !sameOrOver(q, e, wantQ) {
		t.Fatalf("%v by %v = %v, %v, %d; want %v", product, d, q, r, e, wantQ)
	}
	if e != api.OK {
		wantR.SetInt64(0)
	}
	if bigOf(r).Cmp(wantR) != 0 {
		t.Fatalf("%v by %v = %v, %v, %d; want %v left", product, d, q, r, e, wantR)
	}
}

// P2.3
func TestDivAgainstBig(t *testing.T) {
	eachPair(func(a, d api.Wide) {
		q, r, e := Div(a, d)
		checkQuotient(t, bigOf(a), d, q, r, e)
	})
}

// P2.4
func TestMulDivTable(t *testing.T) {
	for _, c := range []struct {
		a, b, d, q, r api.Wide
		e             api.Errno
	}{
		{api.Wide{Hi: 1 << 62}, Of(6), Of(8), api.Wide{Hi: 3 << 60}, none, api.OK},
		{Of(7), Of(3), Of(2), Of(10), Of(1), api.OK},
		{Of(-7), Of(3), Of(2), Of(-11), Of(1), api.OK},
		{Of(7), Of(-3), Of(2), Of(-11), Of(1), api.OK},
		{Of(-7), Of(-3), Of(2), Of(10), Of(1), api.OK},
		{Of(-6), Of(3), Of(2), Of(-9), none, api.OK},
		{none, Of(-3), Of(2), none, none, api.OK},
		{most, most, most, most, none, api.OK},
		{least, most, most, least, none, api.OK},
		{least, least, most, none, none, api.ErrOver},
		{least, Of(-1), Of(1), none, none, api.ErrOver},
		{least, Of(-1), Of(2), api.Wide{Hi: 1 << 62}, none, api.OK},
		{least, Of(1), Of(1), least, none, api.OK},
		{least, Of(3), Of(2), none, none, api.ErrOver},
		{least, Of(3), Of(3), least, none, api.OK},
		{most, Of(3), Of(2), none, none, api.ErrOver},
		{most, Of(2), Of(1), none, none, api.ErrOver},
		{most, Of(-2), Of(1), none, none, api.ErrOver},
		{api.Wide{Hi: 1 << 60}, Of(16), Of(2), none, none, api.ErrOver},
		{api.Wide{Hi: 1 << 60}, Of(-16), Of(2), least, none, api.OK},
		// 2^128 - 1 by 2 is 2^127 - 1 and a half, which is just not too great; below 0 it comes to the least Wide.
		{api.Wide{Hi: 0x5555555555555555, Lo: 0x5555555555555555}, Of(3), Of(2), most, Of(1), api.OK},
		{api.Wide{Hi: 0x5555555555555555, Lo: 0x5555555555555555}, Of(-3), Of(2), least, Of(1), api.OK},
		// What is below the least Wide, by a whole or by less, is too small when it is rounded down.
		{api.Wide{Hi: 1 << 62, Lo: 1}, Of(-4), Of(2), none, none, api.ErrOver},
		{api.Wide{Hi: 0x5555555555555555, Lo: 0x5555555555555556}, Of(-3), Of(2), none, none, api.ErrOver},
		{api.Wide{Hi: 1, Lo: 1}, api.Wide{Hi: -1}, Of(1), none, none, api.ErrOver},
		{api.Wide{Hi: 0x135, Lo: 0x40775b48cc32ba01}, Of(-59649589127497217), Of(2), none, none, api.ErrOver},
		// 2^129 - 1 by 2: the quotient's size fills 128 bits, and has no room when it is rounded down.
		{api.Wide{Hi: 0x1301c82ac402603, Lo: 0x90558804c0720ab1}, Of(-431), Of(2), none, none, api.ErrOver},
		{most, Of(-5), Of(2), none, none, api.ErrOver},
		{most, Of(1), none, none, none, api.ErrZero},
		{most, most, Of(-1), none, none, api.ErrZero},
		{none, none, least, none, none, api.ErrZero},
	} {
		if q, r, e := MulDiv(c.a, c.b, c.d); q != c.q || r != c.r || e != c.e {
			t.Errorf("MulDiv(%v, %v, %v) = %v, %v, %d; want %v, %v, %d", c.a, c.b, c.d, q, r, e, c.q, c.r, c.e)
		}
	}
}

// P2.4: all edges times all edges, by divisors at the edges too.
func TestMulDivAgainstBig(t *testing.T) {
	divisors := []api.Wide{least, Of(-1), none, Of(1), Of(2), Of(3), Of(math.MaxInt), {Lo: math.MaxUint64}, {Hi: 1}, {Hi: 1 << 62}, most}
	others := drawn(5, 20000)
	i := 0
	eachPair(func(a, b api.Wide) {
		product := new(big.Int).Mul(bigOf(a), bigOf(b))
		for _, d := range divisors {
			q, r, e := MulDiv(a, b, d)
			checkQuotient(t, product, d, q, r, e)
		}
		d := others[i%len(others)]
		i++
		q, r, e := MulDiv(a, b, d)
		checkQuotient(t, product, d, q, r, e)
	})
}

// P2.4: quotients just inside and just outside of the range.
func TestMulDivAtTheEnds(t *testing.T) {
	for _, d := range append(drawn(6, 300), Of(1), Of(2), Of(3), most) {
		if Cmp(d, none) <= 0 {
			continue
		}
		for _, end := range []api.Wide{least, most} {
			q, r, e := MulDiv(end, d, d)
			checkQuotient(t, new(big.Int).Mul(bigOf(end), bigOf(d)), d, q, r, e)
			for _, more := range []int{1, -1} {
				b, e := Add(d, Of(more))
				if e != api.OK {
					continue
				}
				q, r, e := MulDiv(end, b, d)
				checkQuotient(t, new(big.Int).Mul(bigOf(end), bigOf(b)), d, q, r, e)
			}
		}
	}
}
