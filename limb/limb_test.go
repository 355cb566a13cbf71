package limb

import (
	"math/big"
	"math/rand/v2"
	"testing"
)

var (
	none = Limb{}
	one  = Limb{Lo: 1}
	most = Limb{Hi: 1<<64 - 1, Lo: 1<<64 - 1}
)

// edgeWords are those about which carries, borrows and signs turn.
var edgeWords = []uint64{0, 1, 2, 3, 1<<32 - 1, 1 << 32, 1<<63 - 1, 1 << 63, 1<<63 + 1, 1<<64 - 2, 1<<64 - 1}

func edges() []Limb {
	var list []Limb
	for _, hi := range edgeWords {
		for _, lo := range edgeWords {
			list = append(list, Limb{Hi: hi, Lo: lo})
		}
	}
	return list
}

// drawn answers n Limbs of all lengths; the same ones for the same seed.
func drawn(seed uint64, n int) []Limb {
	source := rand.New(rand.NewPCG(seed, 1))
	list := make([]Limb, n)
	for i := range list {
		a := Limb{Hi: source.Uint64(), Lo: source.Uint64()}
		for range source.IntN(128) {
			a.Lo = a.Lo>>1 | a.Hi<<63
			a.Hi >>= 1
		}
		list[i] = a
	}
	return list
}

func bigOf(a Limb) *big.Int {
	n := new(big.Int).SetUint64(a.Hi)
	n.Lsh(n, 64)
	return n.Add(n, new(big.Int).SetUint64(a.Lo))
}

func bigOfTwo(hi, lo Limb) *big.Int {
	n := bigOf(hi)
	n.Lsh(n, 128)
	return n.Add(n, bigOf(lo))
}

var modulus = new(big.Int).Lsh(big.NewInt(1), 128)

// eachPair calls check with every pair of edges, and with drawn pairs.
func eachPair(check func(a, b Limb)) {
	for _, a := range edges() {
		for _, b := range edges() {
			check(a, b)
		}
	}
	others := drawn(2, 20000)
	for i, a := range drawn(1, 20000) {
		check(a, others[i])
	}
}

// P1.1
func TestAddTable(t *testing.T) {
	for _, c := range []struct {
		a, b, sum Limb
		over      bool
	}{
		{none, none, none, false},
		{Limb{Hi: 1, Lo: 2}, Limb{Hi: 3, Lo: 4}, Limb{Hi: 4, Lo: 6}, false},
		{Limb{Lo: 1<<64 - 1}, one, Limb{Hi: 1}, false},
		{most, none, most, false},
		{most, one, none, true},
		{one, most, none, true},
		{most, most, Limb{Hi: 1<<64 - 1, Lo: 1<<64 - 2}, true},
		{Limb{Hi: 1 << 63}, Limb{Hi: 1 << 63}, none, true},
		{Limb{Hi: 1<<64 - 1}, Limb{Lo: 1<<64 - 1}, most, false},
		{Limb{Hi: 1<<64 - 1, Lo: 1}, Limb{Lo: 1<<64 - 1}, none, true},
	} {
		if sum, over := Add(c.a, c.b); sum != c.sum || over != c.over {
			t.Errorf("Add(%v, %v) = %v, %v; want %v, %v", c.a, c.b, sum, over, c.sum, c.over)
		}
	}
}

// P1.1
func TestAddAgainstBig(t *testing.T) {
	eachPair(func(a, b Limb) {
		want := new(big.Int).Add(bigOf(a), bigOf(b))
		wantOver := want.Cmp(modulus) >= 0
		if wantOver {
			want.Sub(want, modulus)
		}
		if sum, over := Add(a, b); bigOf(sum).Cmp(want) != 0 || over != wantOver {
			t.Fatalf("Add(%v, %v) = %v, %v; want %v, %v", a, b, sum, over, want, wantOver)
		}
	})
}

// P1.1
func TestSubTable(t *testing.T) {
	for _, c := range []struct {
		a, b, diff Limb
		under      bool
	}{
		{none, none, none, false},
		{Limb{Hi: 4, Lo: 6}, Limb{Hi: 3, Lo: 4}, Limb{Hi: 1, Lo: 2}, false},
		{Limb{Hi: 1}, one, Limb{Lo: 1<<64 - 1}, false},
		{most, most, none, false},
		{none, one, most, true},
		{none, most, one, true},
		{Limb{Hi: 1, Lo: 1}, Limb{Hi: 1, Lo: 2}, most, true},
		{Limb{Hi: 1, Lo: 1<<64 - 1}, Limb{Hi: 2}, most, true},
		{Limb{Hi: 2}, Limb{Hi: 1, Lo: 1<<64 - 1}, one, false},
	} {
		if diff, under := Sub(c.a, c.b); diff != c.diff || under != c.under {
			t.Errorf("Sub(%v, %v) = %v, %v; want %v, %v", c.a, c.b, diff, under, c.diff, c.under)
		}
	}
}

// P1.1
func TestSubAgainstBig(t *testing.T) {
	eachPair(func(a, b Limb) {
		want := new(big.Int).Sub(bigOf(a), bigOf(b))
		wantUnder := want.Sign() < 0
		if wantUnder {
			want.Add(want, modulus)
		}
		if diff, under := Sub(a, b); bigOf(diff).Cmp(want) != 0 || under != wantUnder {
			t.Fatalf("Sub(%v, %v) = %v, %v; want %v, %v", a, b, diff, under, want, wantUnder)
		}
	})
}

// P1.1
func TestCmpTable(t *testing.T) {
	for _, c := range []struct {
		a, b Limb
		want int
	}{
		{none, none, 0},
		{most, most, 0},
		{none, one, -1},
		{one, none, 1},
		{Limb{Lo: 9}, Limb{Hi: 1}, -1},
		{Limb{Hi: 1}, Limb{Lo: 1<<64 - 1}, 1},
		{Limb{Hi: 1, Lo: 5}, Limb{Hi: 2, Lo: 4}, -1},
		{Limb{Hi: 7, Lo: 5}, Limb{Hi: 7, Lo: 4}, 1},
		{Limb{Hi: 1 << 63}, Limb{Hi: 1<<63 - 1}, 1},
		{Limb{Lo: 1 << 63}, Limb{Lo: 1<<63 - 1}, 1},
		{most, none, 1},
	} {
		if got := Cmp(c.a, c.b); got != c.want {
			t.Errorf("Cmp(%v, %v) = %d; want %d", c.a, c.b, got, c.want)
		}
	}
}

// P1.1
func TestCmpAgainstBig(t *testing.T) {
	eachPair(func(a, b Limb) {
		if got, want := Cmp(a, b), bigOf(a).Cmp(bigOf(b)); got != want {
			t.Fatalf("Cmp(%v, %v) = %d; want %d", a, b, got, want)
		}
		if got := Cmp(a, a); got != 0 {
			t.Fatalf("Cmp(%v, itself) = %d", a, got)
		}
	})
}

// P1.2
func TestMulTable(t *testing.T) {
	for _, c := range []struct{ a, b, hi, lo Limb }{
		{none, most, none, none},
		{one, most, none, most},
		{Limb{Lo: 6}, Limb{Lo: 7}, none, Limb{Lo: 42}},
		{Limb{Hi: 1}, Limb{Hi: 1}, one, none},
		{Limb{Lo: 1<<64 - 1}, Limb{Lo: 1<<64 - 1}, none, Limb{Hi: 1<<64 - 2, Lo: 1}},
		{Limb{Hi: 1 << 63}, Limb{Lo: 2}, one, none},
		{Limb{Hi: 1<<64 - 1}, Limb{Hi: 1<<64 - 1}, Limb{Hi: 1<<64 - 2, Lo: 1}, none},
		{most, most, Limb{Hi: 1<<64 - 1, Lo: 1<<64 - 2}, one},
	} {
		if hi, lo := Mul(c.a, c.b); hi != c.hi || lo != c.lo {
			t.Errorf("Mul(%v, %v) = %v, %v; want %v, %v", c.a, c.b, hi, lo, c.hi, c.lo)
		}
	}
}

// P1.2
func TestMulAgainstBig(t *testing.T) {
	eachPair(func(a, b Limb) {
		hi, lo := Mul(a, b)
		if want := new(big.Int).Mul(bigOf(a), bigOf(b)); bigOfTwo(hi, lo).Cmp(want) != 0 {
			t.Fatalf("Mul(%v, %v) = %v, %v; want %v", a, b, hi, lo, want)
		}
	})
}

// P1.3
func TestDivTable(t *testing.T) {
	for _, c := range []struct{ hi, lo, d, q, r Limb }{
		{none, none, one, none, none},
		{none, Limb{Lo: 7}, Limb{Lo: 2}, Limb{Lo: 3}, one},
		{none, Limb{Lo: 7}, Limb{Lo: 8}, none, Limb{Lo: 7}},
		{none, most, one, most, none},
		{none, most, most, one, none},
		{one, none, Limb{Lo: 2}, Limb{Hi: 1 << 63}, none},
		{none, Limb{Hi: 5, Lo: 7}, Limb{Hi: 2}, Limb{Lo: 2}, Limb{Hi: 1, Lo: 7}},
		{Limb{Hi: 1<<64 - 1, Lo: 1<<64 - 2}, one, most, most, none},
		{Limb{Hi: 1<<64 - 1, Lo: 1<<64 - 2}, most, most, most, Limb{Hi: 1<<64 - 1, Lo: 1<<64 - 2}},
		{Limb{Hi: 1 << 63}, none, Limb{Hi: 1 << 63, Lo: 1}, Limb{Hi: 1<<64 - 1, Lo: 1<<64 - 2}, Limb{Lo: 2}},
	} {
		if q, r, ok := Div(c.hi, c.lo, c.d); q != c.q || r != c.r || !ok {
			t.Errorf("Div(%v, %v, %v) = %v, %v, %v; want %v, %v, true", c.hi, c.lo, c.d, q, r, ok, c.q, c.r)
		}
	}
}

// P1.3
func TestDivRefuses(t *testing.T) {
	for _, c := range []struct{ hi, lo, d Limb }{
		{none, none, none},
		{none, most, none},
		{most, most, none},
		{one, none, one},
		{Limb{Lo: 2}, none, Limb{Lo: 2}},
		{Limb{Lo: 3}, one, Limb{Lo: 2}},
		{Limb{Hi: 1}, one, Limb{Lo: 1<<64 - 1}},
		{most, none, most},
	} {
		if q, r, ok := Div(c.hi, c.lo, c.d); q != none || r != none || ok {
			t.Errorf("Div(%v, %v, %v) = %v, %v, %v; want 0, 0, false", c.hi, c.lo, c.d, q, r, ok)
		}
	}
}

func checkDiv(t *testing.T, hi, lo, d Limb) {
	t.Helper()
	q, r, ok := Div(hi, lo, d)
	if bigOf(hi).Cmp(bigOf(d)) >= 0 {
		if q != none || r != none || ok {
			t.Fatalf("Div(%v, %v, %v) = %v, %v, %v; want 0, 0, false", hi, lo, d, q, r, ok)
		}
		return
	}
	wantQ, wantR := new(big.Int).QuoRem(bigOfTwo(hi, lo), bigOf(d), new(big.Int))
	if bigOf(q).Cmp(wantQ) != 0 || bigOf(r).Cmp(wantR) != 0 || !ok {
		t.Fatalf("Div(%v, %v, %v) = %v, %v, %v; want %v, %v, true", hi, lo, d, q, r, ok, wantQ, wantR)
	}
}

// P1.3: hi next to d, on both sides, is where the quotient ceases to fit.
func TestDivAgainstBig(t *testing.T) {
	lows := []Limb{none, one, {Lo: 1<<64 - 1}, {Hi: 1}, {Hi: 1 << 63}, most}
	for _, d := range edges() {
		below, _ := Sub(d, one)
		above, _ := Add(d, one)
		for _, lo := range lows {
			checkDiv(t, below, lo, d)
			checkDiv(t, d, lo, d)
			checkDiv(t, above, lo, d)
			for _, hi := range edges() {
				checkDiv(t, hi, lo, d)
			}
		}
	}
	los, ds := drawn(4, 20000), drawn(5, 20000)
	for i, hi := range drawn(3, 20000) {
		checkDiv(t, hi, los[i], ds[i])
		checkDiv(t, none, los[i], ds[i])
	}
}

// P1.2 and P1.3: what Mul puts together, Div takes apart again.
func TestDivUndoesMul(t *testing.T) {
	eachPair(func(a, b Limb) {
		if b == none {
			return
		}
		hi, lo := Mul(a, b)
		if q, r, ok := Div(hi, lo, b); q != a || r != none || !ok {
			t.Fatalf("Div of %v times %v = %v, %v, %v", a, b, q, r, ok)
		}
	})
}
