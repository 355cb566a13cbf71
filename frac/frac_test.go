package frac_test

import (
	"bytes"
	"fmt"
	"math"
	"math/big"
	"math/rand/v2"
	"slices"
	"sort"
	"sync"
	"testing"

	"epact/api"
	"epact/frac"
)

const second = 1000000000000000000

var (
	least = api.Wide{Hi: math.MinInt64}
	most  = api.Wide{Hi: math.MaxInt64, Lo: math.MaxUint64}
)

// noOctets are numbers of octets that are below 0 or above 15; cut to fewer bits some would be few.
var noOctets = []int{-1, -2, -8, -255, -256, 16, 17, 255, 256, 257, 266, 1<<32 + 1, -1<<32 + 2, 1 << 62, math.MinInt, math.MinInt + 7, math.MaxInt}

func bigOf(a api.Wide) *big.Int {
	n := big.NewInt(a.Hi)
	n.Lsh(n, 64)
	return n.Add(n, new(big.Int).SetUint64(a.Lo))
}

// wideOf answers n, which fits.
func wideOf(n *big.Int) api.Wide {
	lo := new(big.Int).And(n, new(big.Int).SetUint64(math.MaxUint64))
	return api.Wide{Hi: new(big.Int).Rsh(n, 64).Int64(), Lo: lo.Uint64()}
}

// of answers n as a Wide.
func of(n int) api.Wide { return wideOf(big.NewInt(int64(n))) }

func fits(n *big.Int) bool {
	return n.Cmp(bigOf(least)) >= 0 && n.Cmp(bigOf(most)) <= 0
}

// plus answers n and by.
func plus(n *big.Int, by int) *big.Int {
	return new(big.Int).Add(n, big.NewInt(int64(by)))
}

// room answers 256 to the power octets, and by.
func room(octets, by int) *big.Int {
	return plus(new(big.Int).Lsh(big.NewInt(1), uint(8*octets)), by)
}

// code says the chapter's word once more, in big numbers.
func code(atto, octets int) *big.Int {
	n := new(big.Int).Mul(big.NewInt(int64(atto)), room(octets, 0))
	return n.Quo(n, big.NewInt(second))
}

// wantDecode says P19.1 of Decode once more: codes rise with their attoseconds, so the least attosecond is looked for between them.
func wantDecode(f *big.Int, octets int) (int, api.Errno) {
	if octets < 0 || octets > 10 || f.Sign() < 0 || f.Cmp(room(octets, 0)) >= 0 {
		return 0, api.ErrArg
	}
	atto := sort.Search(second, func(atto int) bool { return code(atto, octets).Cmp(f) >= 0 })
	if atto == second || code(atto, octets).Cmp(f) != 0 {
		return 0, api.ErrFine
	}
	return atto, api.OK
}

// checkEncode holds Encode of an attosecond against the chapter, and what Decode makes of the code against it.
func checkEncode(t *testing.T, atto, octets int) {
	t.Helper()
	want := code(atto, octets)
	f, e := frac.Encode(atto, octets)
	if e != api.OK || f != wideOf(want) {
		t.Errorf("Encode(%d, %d) = %s, %d; want %s", atto, octets, bigOf(f), e, want)
	}
	back, e := frac.Decode(f, octets)
	if e != api.OK || back > atto || code(back, octets).Cmp(want) != 0 || back > 0 && code(back-1, octets).Cmp(want) == 0 {
		t.Errorf("Decode(Encode(%d, %d)) = %d, %d", atto, octets, back, e)
	}
	// From 8 octets on there are more codes than attoseconds.
	if octets >= 8 && back != atto {
		t.Errorf("Decode(Encode(%d, %d)) = %d", atto, octets, back)
	}
}

// checkDecode holds Decode of a number that fits against the chapter, and answers its error.
func checkDecode(t *testing.T, f *big.Int, octets int) api.Errno {
	t.Helper()
	want, e := wantDecode(f, octets)
	got, g := frac.Decode(wideOf(f), octets)
	if got != want || g != e {
		t.Errorf("Decode(%s, %d) = %d, %d; want %d, %d", f, octets, got, g, want, e)
	}
	return e
}

// wantPut says P19.2 of Put once more: what n's octets are, big knows.
func wantPut(n *big.Int, octets int) ([]byte, api.Errno) {
	if octets < 0 || octets > 15 {
		return nil, api.ErrArg
	}
	if n.Sign() < 0 || n.Cmp(room(octets, 0)) >= 0 {
		return nil, api.ErrOver
	}
	return n.FillBytes(make([]byte, octets)), api.OK
}

// checkPut holds Put of a number that fits against the chapter, and Get against what was put. It answers Put's error.
func checkPut(t *testing.T, n *big.Int, octets int) api.Errno {
	t.Helper()
	want, e := wantPut(n, octets)
	got, f := frac.Put(wideOf(n), octets)
	if !bytes.Equal(got, want) || f != e || f != api.OK && got != nil {
		t.Errorf("Put(%s, %d) = %x, %d; want %x, %d", n, octets, got, f, want, e)
	}
	if f != api.OK {
		return e
	}
	if back, g := frac.Get(got); back != wideOf(n) || g != api.OK {
		t.Errorf("Get(Put(%s, %d)) = %s, %d", n, octets, bigOf(back), g)
	}
	return e
}

// checkErrors tells whether each of those errors came up, and no other.
func checkErrors(t *testing.T, seen map[api.Errno]int, want ...api.Errno) {
	t.Helper()
	if len(seen) != len(want) {
		t.Errorf("errors %v; want just %v", seen, want)
	}
	for _, e := range want {
		if seen[e] == 0 {
			t.Errorf("error %d never came up: %v", e, seen)
		}
	}
}

// attos are attoseconds of all sizes, and those about the parts of a second.
func attos() []int {
	out := []int{0, second - 1}
	for part := 1; part < second; part *= 2 {
		for _, n := range []int{second / part, second - second/part, part} {
			out = append(out, n-1, n, n+1)
		}
	}
	for ten := 1; ten < second; ten *= 10 {
		out = append(out, ten-1, ten, ten+1, 9*ten, second-ten)
	}
	return slices.DeleteFunc(out, func(n int) bool { return n < 0 || n >= second })
}

// P19.1: the chapter's examples, and codes that are told by hand.
func TestExamples(t *testing.T) {
	for _, x := range []struct {
		atto, octets int
		code         api.Wide
	}{
		{second / 2, 1, of(128)}, {second / 2, 0, of(0)}, {second / 2, 2, of(1 << 15)}, {second / 2, 4, of(1 << 31)}, {second / 2, 8, api.Wide{Lo: 1 << 63}}, {second / 2, 9, api.Wide{Hi: 1 << 7}}, {second / 2, 10, api.Wide{Hi: 1 << 15}},
		{second - 1, 0, of(0)}, {second - 1, 1, of(255)}, {second - 1, 4, of(1<<32 - 1)}, {second - 1, 7, of(1<<56 - 1)}, {second - 1, 8, api.Wide{Lo: 18446744073709551597}}, {second - 1, 10, wideOf(room(10, -1208926))},
		{1, 0, of(0)}, {1, 7, of(0)}, {1, 8, of(18)}, {1, 9, of(4722)}, {1, 10, of(1208925)}, {2, 10, of(2417851)}, {13, 7, of(0)}, {14, 7, of(1)}, {27, 7, of(1)}, {28, 7, of(2)},
		{232830643, 4, of(0)}, {232830644, 4, of(1)}, {465661287, 4, of(1)}, {465661288, 4, of(2)}, {3906249999999999, 1, of(0)}, {3906250000000000, 1, of(1)},
		{0, 0, of(0)}, {0, 1, of(0)}, {0, 10, of(0)},
	} {
		if f, e := frac.Encode(x.atto, x.octets); f != x.code || e != api.OK {
			t.Errorf("Encode(%d, %d) = %s, %d; want %s", x.atto, x.octets, bigOf(f), e, bigOf(x.code))
		}
	}
	for _, x := range []struct {
		f            api.Wide
		octets, atto int
		e            api.Errno
	}{
		{of(128), 1, second / 2, 0}, {of(1), 4, 232830644, 0}, {of(1), 10, 0, api.ErrFine}, {of(0), 0, 0, 0}, {of(0), 10, 0, 0}, {of(255), 1, 996093750000000000, 0}, {of(1), 7, 14, 0}, {of(2), 7, 28, 0}, {of(1<<56 - 1), 7, second - 13, 0},
		{of(17), 8, 0, api.ErrFine}, {of(18), 8, 1, 0}, {of(19), 8, 0, api.ErrFine}, {of(1208924), 10, 0, api.ErrFine}, {of(1208925), 10, 1, 0}, {of(1208926), 10, 0, api.ErrFine}, {api.Wide{Hi: 1 << 15}, 10, second / 2, 0},
	} {
		if atto, e := frac.Decode(x.f, x.octets); atto != x.atto || e != x.e {
			t.Errorf("Decode(%s, %d) = %d, %d; want %d, %d", bigOf(x.f), x.octets, atto, e, x.atto, x.e)
		}
	}
}

// P19.1: attoseconds of all sizes, in each number of octets.
func TestEncode(t *testing.T) {
	for _, atto := range attos() {
		for octets := range 11 {
			checkEncode(t, atto, octets)
		}
	}
}

// P19.1, R3: attoseconds and octets that are none.
func TestEncodeWrong(t *testing.T) {
	noAttos := []int{-1, -2, -second, -second - 1, second, second + 1, 2 * second, math.MinInt, math.MinInt + 1, math.MaxInt, -1 << 59, 1 << 62}
	for _, atto := range append(noAttos, attos()[:9]...) {
		for _, octets := range append([]int{11, 12, 15}, noOctets...) {
			if f, e := frac.Encode(atto, octets); f != (api.Wide{}) || e != api.ErrArg {
				t.Errorf("Encode(%d, %d) = %v, %d; want ErrArg", atto, octets, f, e)
			}
		}
	}
	for _, atto := range noAttos {
		for octets := range 11 {
			if f, e := frac.Encode(atto, octets); f != (api.Wide{}) || e != api.ErrArg {
				t.Errorf("Encode(%d, %d) = %v, %d; want ErrArg", atto, octets, f, e)
			}
		}
	}
}

// P19.1: each code of one octet and of two, and no more.
func TestDecodeFew(t *testing.T) {
	for octets := range 3 {
		many := 1 << (8 * octets)
		before := -1
		for f := -3; f < many+3; f++ {
			atto, e := frac.Decode(of(f), octets)
			if f < 0 || f >= many {
				if atto != 0 || e != api.ErrArg {
					t.Errorf("Decode(%d, %d) = %d, %d; want ErrArg", f, octets, atto, e)
				}
				continue
			}
			// A second has as many parts as codes, and 2^16 goes into it without a rest.
			if e != api.OK || atto != second/many*f || atto <= before {
				t.Fatalf("Decode(%d, %d) = %d, %d", f, octets, atto, e)
			}
			before = atto
		}
	}
}

// P19.1: codes at both ends, in the middle and about those of attoseconds; down to 7 octets each is one.
func TestDecode(t *testing.T) {
	for octets := range 11 {
		seen := map[api.Errno]int{}
		mids := []*big.Int{big.NewInt(0), room(octets, 0), new(big.Int).Rsh(room(octets, 0), 1), new(big.Int).Quo(room(octets, 0), big.NewInt(10))}
		for _, atto := range attos() {
			mids = append(mids, code(atto, octets))
		}
		for _, mid := range mids {
			for by := -2; by <= 2; by++ {
				seen[checkDecode(t, plus(mid, by), octets)]++
			}
		}
		if octets < 8 {
			checkErrors(t, seen, api.OK, api.ErrArg)
			continue
		}
		checkErrors(t, seen, api.OK, api.ErrArg, api.ErrFine)
	}
}

// P19.1: code by code from one attosecond to another: one of some eighteen is an attosecond's.
func TestDecodeWalk(t *testing.T) {
	for _, from := range []int{0, 1, second/2 - 20, second / 3, second - 40} {
		f := code(from, 8)
		for atto := from; atto < from+40; {
			want, e := 0, api.ErrFine
			if f.Cmp(code(atto, 8)) == 0 {
				want, e = atto, api.OK
				atto++
			}
			if got, g := frac.Decode(wideOf(f), 8); got != want || g != e {
				t.Fatalf("Decode(%s, 8) = %d, %d; want %d, %d", f, got, g, want, e)
			}
			f = plus(f, 1)
		}
	}
	// Behind the last attosecond's code there are none.
	for octets := 8; octets <= 10; octets++ {
		for f := plus(code(second-1, octets), 1); f.Cmp(room(octets, 0)) < 0; f = plus(f, 1+(octets-8)*40007) {
			if got, e := frac.Decode(wideOf(f), octets); got != 0 || e != api.ErrFine {
				t.Fatalf("Decode(%s, %d) = %d, %d; want ErrFine", f, octets, got, e)
			}
		}
	}
}

// P19.1, R3: codes that so many octets do not hold, and octets that are none.
func TestDecodeWrong(t *testing.T) {
	for octets := range 11 {
		for _, f := range []api.Wide{
			wideOf(room(octets, 0)), wideOf(room(octets, 1)), wideOf(room(octets+1, 0)), wideOf(room(15, 0)), of(-1), of(-128), of(math.MinInt), {Hi: 1 << 16}, {Hi: 1 << 16, Lo: 1}, {Hi: -1 << 16}, {Hi: -1}, {Hi: -1, Lo: 1},
			{Hi: math.MinInt64, Lo: 128}, {Hi: math.MaxInt64}, {Hi: 1 << 32, Lo: 128}, {Hi: 1 << 48}, {Hi: -1 << 48}, least, most,
		} {
			if atto, e := frac.Decode(f, octets); atto != 0 || e != api.ErrArg {
				t.Errorf("Decode(%s, %d) = %d, %d; want ErrArg", bigOf(f), octets, atto, e)
			}
		}
	}
	for _, octets := range append([]int{11, 12, 15}, noOctets...) {
		for _, f := range []api.Wide{{}, of(1), of(-1), of(128), {Hi: 1}, {Hi: 1 << 16}, {Hi: 1 << 24}, {Hi: -1}, least, most} {
			if atto, e := frac.Decode(f, octets); atto != 0 || e != api.ErrArg {
				t.Errorf("Decode(%s, %d) = %d, %d; want ErrArg", bigOf(f), octets, atto, e)
			}
		}
	}
}

// P19.2: numbers as octets, each in its place.
func TestPut(t *testing.T) {
	for _, x := range []struct {
		n      api.Wide
		octets int
		want   []byte
	}{
		{of(0), 0, nil}, {of(0), 1, []byte{0}}, {of(0), 3, []byte{0, 0, 0}}, {of(1), 1, []byte{1}}, {of(1), 4, []byte{0, 0, 0, 1}}, {of(255), 1, []byte{255}}, {of(256), 2, []byte{1, 0}}, {of(65537), 3, []byte{1, 0, 1}},
		{of(0x0102030405060708), 8, []byte{1, 2, 3, 4, 5, 6, 7, 8}}, {api.Wide{Lo: 0xf1f2f3f4f5f6f7f8}, 8, []byte{0xf1, 0xf2, 0xf3, 0xf4, 0xf5, 0xf6, 0xf7, 0xf8}}, {api.Wide{Hi: 1}, 9, []byte{1, 0, 0, 0, 0, 0, 0, 0, 0}},
		{api.Wide{Hi: 0x01020304050607, Lo: 0x08090a0b0c0d0e0f}, 15, []byte{1, 2, 3, 4, 5, 6, 7, 8, 9, 10, 11, 12, 13, 14, 15}},
		{api.Wide{Hi: 0xffeeddccbbaa99, Lo: 0x8877665544332211}, 15, []byte{0xff, 0xee, 0xdd, 0xcc, 0xbb, 0xaa, 0x99, 0x88, 0x77, 0x66, 0x55, 0x44, 0x33, 0x22, 0x11}},
		{api.Wide{Hi: 0x8001}, 15, []byte{0, 0, 0, 0, 0, 0x80, 1, 0, 0, 0, 0, 0, 0, 0, 0}},
	} {
		got, e := frac.Put(x.n, x.octets)
		if !bytes.Equal(got, x.want) || e != api.OK {
			t.Errorf("Put(%s, %d) = %x, %d; want %x", bigOf(x.n), x.octets, got, e, x.want)
		}
		if n, e := frac.Get(x.want); n != x.n || e != api.OK {
			t.Errorf("Get(%x) = %s, %d; want %s", x.want, bigOf(n), e, bigOf(x.n))
		}
	}
}

// P19.2: of each number of octets the least and the greatest number that they hold, and those beside them; each single bit.
func TestPutEdges(t *testing.T) {
	for octets := range 16 {
		seen := map[api.Errno]int{}
		for by := -3; by <= 3; by++ {
			for _, mid := range []*big.Int{big.NewInt(0), room(octets, 0), new(big.Int).Rsh(room(octets, 0), 1), room(octets+1, 0), new(big.Int).Neg(room(octets, 0))} {
				if n := plus(mid, by); fits(n) {
					seen[checkPut(t, n, octets)]++
				}
			}
		}
		for bit := range uint(127) {
			seen[checkPut(t, new(big.Int).Lsh(big.NewInt(1), bit), octets)]++
			seen[checkPut(t, new(big.Int).Neg(new(big.Int).Lsh(big.NewInt(1), bit)), octets)]++
		}
		seen[checkPut(t, bigOf(least), octets)]++
		seen[checkPut(t, bigOf(most), octets)]++
		checkErrors(t, seen, api.OK, api.ErrOver)
	}
}

// P19.2, R2, R3: octets that are none are told first, whatever the number is.
func TestPutWrong(t *testing.T) {
	for _, octets := range noOctets {
		for _, n := range []api.Wide{{}, of(1), of(-1), of(256), {Hi: 1 << 56}, {Hi: -1}, least, most} {
			if b, e := frac.Put(n, octets); b != nil || e != api.ErrArg {
				t.Errorf("Put(%s, %d) = %x, %d; want ErrArg", bigOf(n), octets, b, e)
			}
		}
	}
	for octets := range 16 {
		for _, n := range []api.Wide{of(-1), of(-256), {Hi: -1, Lo: 1}, {Hi: 1 << 56}, {Hi: 1 << 56, Lo: 7}, {Hi: math.MinInt64, Lo: 1}, least, most} {
			if b, e := frac.Put(n, octets); b != nil || e != api.ErrOver {
				t.Errorf("Put(%s, %d) = %x, %d; want ErrOver", bigOf(n), octets, b, e)
			}
		}
	}
}

// P19.2: lists of all lengths, with 0 ahead and with the greatest octets; more than 15 are none, also if all are 0.
func TestGet(t *testing.T) {
	for _, b := range [][]byte{nil, {}, make([]byte, 0, 20)} {
		if n, e := frac.Get(b); n != (api.Wide{}) || e != api.OK {
			t.Errorf("Get(%v) = %v, %d", b, n, e)
		}
	}
	for many := 1; many <= 40; many++ {
		for _, fill := range []byte{0, 1, 127, 128, 255} {
			for place := range many {
				b := bytes.Repeat([]byte{fill}, many)
				b[place] = 77
				want, e := new(big.Int).SetBytes(b), api.OK
				if many > 15 {
					want, e = big.NewInt(0), api.ErrArg
				}
				if n, g := frac.Get(b); n != wideOf(want) || g != e {
					t.Errorf("Get(%x) = %s, %d; want %s, %d", b, bigOf(n), g, want, e)
				}
			}
		}
	}
	for _, many := range []int{16, 17, 255, 256, 271, 65536, 1 << 20} {
		if n, e := frac.Get(make([]byte, many)); n != (api.Wide{}) || e != api.ErrArg {
			t.Errorf("Get of %d octets = %v, %d; want ErrArg", many, n, e)
		}
	}
}

// R4, R5: octets that are handed in stay as they are, spare room included; those that are answered are new each time.
func TestMemory(t *testing.T) {
	all := []byte{9, 8, 7, 6, 5, 4, 3, 2, 1}
	b := all[2:5]
	want := of(7<<16 + 6<<8 + 5)
	if n, e := frac.Get(b); n != want || e != api.OK || !bytes.Equal(all, []byte{9, 8, 7, 6, 5, 4, 3, 2, 1}) {
		t.Errorf("Get = %v, %d; left %v", n, e, all)
	}
	b[0] = 0
	if n, e := frac.Get(b); n != of(6<<8+5) || e != api.OK {
		t.Errorf("Get, turned = %v, %d", n, e)
	}
	one, _ := frac.Put(want, 5)
	two, _ := frac.Put(want, 5)
	for i := range one {
		one[i] = 255
	}
	_ = append(one[:2], 1, 2, 3)
	if !bytes.Equal(two, []byte{0, 0, 7, 6, 5}) {
		t.Errorf("Put's second answer turned into %v", two)
	}
	if three, e := frac.Put(want, 5); !bytes.Equal(three, []byte{0, 0, 7, 6, 5}) || e != api.OK {
		t.Errorf("Put's third answer is %v, %d", three, e)
	}
}

// P19.1: drawn attoseconds and codes, the same ones each time.
func TestDrawnCodes(t *testing.T) {
	r := rand.New(rand.NewPCG(19, 1))
	seen := map[api.Errno]int{}
	for range 3000 {
		atto, octets := r.IntN(second)>>r.IntN(60), r.IntN(11)
		checkEncode(t, atto, octets)
		checkEncode(t, second-1-atto, octets)
		seen[checkDecode(t, plus(code(atto, octets), r.IntN(5)-2), octets)]++
		seen[checkDecode(t, new(big.Int).Rsh(bigOf(api.Wide{Hi: int64(r.Uint64() >> 47), Lo: r.Uint64()}), uint(r.IntN(81))), octets)]++
	}
	checkErrors(t, seen, api.OK, api.ErrArg, api.ErrFine)
}

// P19.2: drawn numbers and octets, the same ones each time.
func TestDrawnOctets(t *testing.T) {
	r := rand.New(rand.NewPCG(19, 2))
	seen := map[api.Errno]int{}
	for range 8000 {
		seen[checkPut(t, new(big.Int).Rsh(bigOf(api.Wide{Hi: int64(r.Uint64()), Lo: r.Uint64()}), uint(r.IntN(128))), r.IntN(20)-2)]++
		b := make([]byte, r.IntN(16))
		for i := range b {
			b[i] = byte(r.Uint64())
		}
		n, e := frac.Get(b)
		if back, f := frac.Put(n, len(b)); e != api.OK || f != api.OK || !bytes.Equal(back, b) {
			t.Errorf("Put(Get(%x)) = %x, %d, %d", b, back, e, f)
		}
	}
	checkErrors(t, seen, api.OK, api.ErrArg, api.ErrOver)
}

// P19.1: codes rise with their attoseconds, from 8 octets on with each.
func TestCodesRise(t *testing.T) {
	all := attos()
	slices.Sort(all)
	all = slices.Compact(all)
	for octets := range 11 {
		before := of(-1)
		for i, atto := range all {
			f, e := frac.Encode(atto, octets)
			up := bigOf(f).Cmp(bigOf(before))
			if e != api.OK || up < 0 || up == 0 && (octets >= 8 || i == 0) {
				t.Errorf("Encode(%d, %d) = %s, %d, behind %s", atto, octets, bigOf(f), e, bigOf(before))
			}
			before = f
		}
	}
}

// R5: many ask at once, refused ones between, and each has its answer.
func TestAtOnce(t *testing.T) {
	var together sync.WaitGroup
	faults := make([]string, 16)
	for n := range faults {
		together.Go(func() {
			for i := range 200 {
				octets := i%13 - 1
				f := big.NewInt(int64(i*i*i*n - 5))
				want, e := wantDecode(f, octets)
				if atto, g := frac.Decode(wideOf(f), octets); atto != want || g != e {
					faults[n] = fmt.Sprint("Decode ", f, octets, atto, g)
				}
				put, e := wantPut(f, octets)
				got, g := frac.Put(wideOf(f), octets)
				if !bytes.Equal(got, put) || g != e {
					faults[n] = fmt.Sprint("Put ", f, octets, got, g)
				}
				if back, h := frac.Get(got); g == api.OK && back != wideOf(f) || h != api.OK {
					faults[n] = fmt.Sprint("Get ", got, back, h)
				}
			}
		})
	}
	together.Wait()
	for _, fault := range faults {
		if fault != "" {
			t.Error(fault)
		}
	}
}
