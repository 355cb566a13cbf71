package ntp_test

import (
	"bytes"
	"fmt"
	"math"
	"math/big"
	"math/rand/v2"
	"sync"
	"testing"

	"epact/api"
	"epact/ntp"
)

const second = 1000000000000000000

var (
	least = api.Wide{Hi: math.MinInt64}
	most  = api.Wide{Hi: math.MaxInt64, Lo: math.MaxUint64}
)

// forms are the bits of those that there are.
var forms = []int{32, 64, 128}

// noForms are bits of which there is no form; cut to fewer bits, or as numbers of octets, some would be one.
var noForms = []int{
	0, 1, 2, 4, 8, 16, 31, 33, 48, 63, 65, 80, 96, 112, 127, 129, 160, 192, 256, 1024, -1, -16, -32, -64, -128,
	256 + 32, 256 + 64, 256 + 128, 1<<16 + 32, 1<<32 + 32, 1<<32 + 64, 1<<32 + 128, -1<<32 + 64, 1 << 62, math.MinInt, math.MinInt + 64, math.MaxInt,
}

func bigOf(a api.Wide) *big.Int {
	n := big.NewInt(a.Hi)
	n.Lsh(n, 64)
	return n.Add(n, new(big.Int).SetUint64(a.Lo))
}

// wideOf answers n, which fits.
func wideOf(n *big.Int) api.Wide {
	lo := new(big.Int).And(n, new(big.Int).SetUint64(math.MaxUint64))
	return api.Wide{Hi: new(big.Int).Rsh(n, 64).Int64(), Lo: lo.Uint64()}
}

// of answers n as a Wide.
func of(n int) api.Wide { return wideOf(big.NewInt(int64(n))) }

func fits(n *big.Int) bool {
	return n.Cmp(bigOf(least)) >= 0 && n.Cmp(bigOf(most)) <= 0
}

// plus answers n and by.
func plus(n *big.Int, by int) *big.Int {
	return new(big.Int).Add(n, big.NewInt(int64(by)))
}

// power answers 2^i and by.
func power(i, by int) *big.Int {
	return plus(new(big.Int).Lsh(big.NewInt(1), uint(i)), by)
}

// time answers so many seconds and attoseconds.
func time(seconds *big.Int, atto int) *big.Int {
	return plus(new(big.Int).Mul(seconds, big.NewInt(second)), atto)
}

// at answers the same of seconds that an int holds, as a Wide.
func at(seconds, atto int) api.Wide { return wideOf(time(big.NewInt(int64(seconds)), atto)) }

// wantEncode says the chapter's P20.1 once more, as one number of all of the form's bits.
func wantEncode(bits int, n *big.Int) ([]byte, api.Errno) {
	if bits != 32 && bits != 64 && bits != 128 {
		return nil, api.ErrArg
	}
	// By a divisor above 0, big's Div rounds down, and its Mod is from 0 on.
	seconds, atto := new(big.Int).DivMod(n, big.NewInt(second), new(big.Int))
	if bits == 128 && !seconds.IsInt64() {
		return nil, api.ErrOver
	}
	code := new(big.Int).Lsh(atto, uint(bits/2))
	code.Quo(code, big.NewInt(second))
	whole := new(big.Int).Mod(seconds, power(bits/2, 0))
	whole.Lsh(whole, uint(bits/2))
	return whole.Add(whole, code).FillBytes(make([]byte, bits/8)), api.OK
}

// wantDecode says P20.2 once more: rounded up, the attosecond of a code is the least one that is not ahead of it.
func wantDecode(bits int, b []byte, about *big.Int) (*big.Int, api.Errno) {
	none := big.NewInt(0)
	if bits != 32 && bits != 64 && bits != 128 {
		return none, api.ErrArg
	}
	if len(b)*8 != bits {
		return none, api.ErrForm
	}
	seconds, code := new(big.Int).DivMod(new(big.Int).SetBytes(b), power(bits/2, 0), new(big.Int))
	atto := new(big.Int).Mul(code, big.NewInt(second))
	atto.Add(atto, power(bits/2, -1)).Rsh(atto, uint(bits/2))
	back := new(big.Int).Lsh(atto, uint(bits/2))
	if back.Quo(back, big.NewInt(second)).Cmp(code) != 0 || atto.Cmp(big.NewInt(second)) >= 0 {
		return none, api.ErrFine
	}
	if bits == 128 {
		if seconds.Cmp(power(63, 0)) >= 0 {
			seconds.Sub(seconds, power(64, 0))
		}
		return time(seconds, int(atto.Int64())), api.OK
	}
	return wantNear(time(seconds, int(atto.Int64())), time(power(bits/2, 0), 0), about)
}

// wantNear says what chapter 18 has of a field that is one of the era's.
func wantNear(field, era, about *big.Int) (*big.Int, api.Errno) {
	low := new(big.Int).Sub(about, new(big.Int).Rsh(era, 1))
	number := new(big.Int).Sub(low, new(big.Int).Mod(low, era))
	number.Add(number, field)
	if number.Cmp(low) < 0 {
		number.Add(number, era)
	}
	if !fits(low) || !fits(number) {
		return big.NewInt(0), api.ErrOver
	}
	return number, api.OK
}

// checkEncode holds Encode of a number that fits against the chapter, and answers its error.
func checkEncode(t *testing.T, bits int, n *big.Int) api.Errno {
	t.Helper()
	want, e := wantEncode(bits, n)
	got, f := ntp.Encode(bits, wideOf(n))
	if !bytes.Equal(got, want) || f != e || f != api.OK && got != nil {
		t.Errorf("Encode(%d, %s) = %x, %d; want %x, %d", bits, n, got, f, want, e)
	}
	if f == api.OK {
		checkBack(t, bits, n, got)
	}
	return e
}

// checkBack tells whether what n is encoded as, decoded about n, is n rounded down to what the form tells (P3).
func checkBack(t *testing.T, bits int, n *big.Int, b []byte) {
	t.Helper()
	back, e := ntp.Decode(bits, b, wideOf(n))
	if e == api.ErrOver {
		half := time(power(bits/2-1, 0), 0)
		if bits == 128 || fits(new(big.Int).Sub(n, half)) {
			t.Errorf("Decode(%d, Encode(%s)): ErrOver", bits, n)
		}
		return
	}
	// A part of the form's second, in attoseconds, rounded down: so much may be lost, and no more.
	lost := new(big.Int).Sub(n, bigOf(back))
	part := new(big.Int).Quo(big.NewInt(second), power(bits/2, 0))
	if e != api.OK || lost.Sign() < 0 || lost.Cmp(part) > 0 {
		t.Errorf("Decode(%d, Encode(%s)) = %s, %d", bits, n, bigOf(back), e)
	}
}

// checkDecode holds Decode about a number that fits against the chapter, and each answer against Encode. It answers Decode's error.
func checkDecode(t *testing.T, bits int, b []byte, about *big.Int) api.Errno {
	t.Helper()
	want, e := wantDecode(bits, b, about)
	got, f := ntp.Decode(bits, b, wideOf(about))
	if got != wideOf(want) || f != e {
		t.Errorf("Decode(%d, %x, %s) = %s, %d; want %s, %d", bits, b, about, bigOf(got), f, want, e)
	}
	if f != api.OK {
		return e
	}
	if back, g := ntp.Encode(bits, got); !bytes.Equal(back, b) || g != api.OK {
		t.Errorf("Encode(%d, Decode(%x, %s)) = %x, %d", bits, b, about, back, g)
	}
	return e
}

// checkErrors tells whether each of those errors came up, and no other.
func checkErrors(t *testing.T, seen map[api.Errno]int, want ...api.Errno) {
	t.Helper()
	if len(seen) != len(want) {
		t.Errorf("errors %v; want just %v", seen, want)
	}
	for _, e := range want {
		if seen[e] == 0 {
			t.Errorf("error %d never came up: %v", e, seen)
		}
	}
}

// moments are NTP times of all sizes and signs, and those about the ends of eras and of what 128 bits tell.
func moments() []*big.Int {
	out := []*big.Int{}
	for i := 0; i < 67; i++ {
		for by := -1; by <= 1; by++ {
			seconds := power(i, by)
			for _, atto := range []int{0, 1, -1, second / 2, second/2 - 1, second - 18, second / 65536, second/65536 - 1} {
				out = append(out, time(seconds, atto), time(new(big.Int).Neg(seconds), atto))
			}
		}
	}
	for i := range 127 {
		out = append(out, power(i, 0), power(i, -1), new(big.Int).Neg(power(i, 0)))
	}
	return append(out, bigOf(least), plus(bigOf(least), 1), bigOf(most), plus(bigOf(most), -1))
}

// P20.1, P20.2: the chapter's example, and times that are told by hand.
func TestExamples(t *testing.T) {
	for _, x := range []struct {
		bits int
		n    api.Wide
		want []byte
	}{
		{64, at(1, second/2), []byte{0, 0, 0, 1, 128, 0, 0, 0}}, {32, at(1, second/2), []byte{0, 1, 128, 0}}, {128, at(1, second/2), []byte{0, 0, 0, 0, 0, 0, 0, 1, 128, 0, 0, 0, 0, 0, 0, 0}},
		{32, of(0), make([]byte, 4)}, {64, of(0), make([]byte, 8)}, {128, of(0), make([]byte, 16)},
		// 1970-01-01, as NTP counts, and a quarter of a second.
		{32, at(2208988800, second/4), []byte{0x7e, 0x80, 64, 0}}, {64, at(2208988800, second/4), []byte{0x83, 0xaa, 0x7e, 0x80, 64, 0, 0, 0}}, {128, at(2208988800, second/4), []byte{0, 0, 0, 0, 0x83, 0xaa, 0x7e, 0x80, 64, 0, 0, 0, 0, 0, 0, 0}},
		// The second era of 32 bits of seconds, as of 2036-02-07T06:28:16Z.
		{32, at(1<<32, 0), make([]byte, 4)}, {64, at(1<<32, 0), make([]byte, 8)}, {128, at(1<<32, 0), []byte{0, 0, 0, 1, 0, 0, 0, 0, 0, 0, 0, 0, 0, 0, 0, 0}},
		{64, at(1<<32+0x01020304, 3*second/4), []byte{1, 2, 3, 4, 192, 0, 0, 0}}, {32, at(1<<32+0x01020304, 3*second/4), []byte{3, 4, 192, 0}},
		{128, at(0x0102030405060708, second/256), []byte{1, 2, 3, 4, 5, 6, 7, 8, 1, 0, 0, 0, 0, 0, 0, 0}}, {64, at(0x0102030405060708, second/256), []byte{5, 6, 7, 8, 1, 0, 0, 0}}, {32, at(0x0102030405060708, second/256), []byte{7, 8, 1, 0}},
		// Ahead of 1900 the seconds are rounded down, and the code goes on from there.
		{32, at(-1, second/2), []byte{255, 255, 128, 0}}, {64, at(-1, second/2), []byte{255, 255, 255, 255, 128, 0, 0, 0}}, {128, at(-1, second/2), []byte{255, 255, 255, 255, 255, 255, 255, 255, 128, 0, 0, 0, 0, 0, 0, 0}},
		{64, at(-2, 0), []byte{255, 255, 255, 254, 0, 0, 0, 0}}, {128, at(-2, 0), []byte{255, 255, 255, 255, 255, 255, 255, 254, 0, 0, 0, 0, 0, 0, 0, 0}},
		// The ends of what 128 bits tell.
		{128, at(math.MaxInt, second/2), []byte{127, 255, 255, 255, 255, 255, 255, 255, 128, 0, 0, 0, 0, 0, 0, 0}}, {128, at(math.MinInt, second/2), []byte{128, 0, 0, 0, 0, 0, 0, 0, 128, 0, 0, 0, 0, 0, 0, 0}},
	} {
		if b, e := ntp.Encode(x.bits, x.n); !bytes.Equal(b, x.want) || e != api.OK {
			t.Errorf("Encode(%d, %s) = %v, %d; want %v", x.bits, bigOf(x.n), b, e, x.want)
		}
		if n, e := ntp.Decode(x.bits, x.want, x.n); n != x.n || e != api.OK {
			t.Errorf("Decode(%d, %v, %s) = %s, %d", x.bits, x.want, bigOf(x.n), bigOf(n), e)
		}
	}
}

// P20.1: the code of the form is rounded down, also at one attosecond ahead of the next second.
func TestRoundedDown(t *testing.T) {
	for _, x := range []struct {
		bits, atto int
		tail       []byte
	}{
		{32, second - 1, []byte{255, 255}}, {32, second / 65536, []byte{0, 1}}, {32, second/65536 - 1, []byte{0, 0}}, {32, 1, []byte{0, 0}},
		{64, second - 1, []byte{255, 255, 255, 255}}, {64, 232830643, []byte{0, 0, 0, 0}}, {64, 232830644, []byte{0, 0, 0, 1}}, {64, 1, []byte{0, 0, 0, 0}},
		{128, second - 1, []byte{255, 255, 255, 255, 255, 255, 255, 237}}, {128, 1, []byte{0, 0, 0, 0, 0, 0, 0, 18}}, {128, 2, []byte{0, 0, 0, 0, 0, 0, 0, 36}},
	} {
		for _, seconds := range []int{0, 1, -1, 65535, -65536, 1<<32 - 1, math.MaxInt, math.MinInt} {
			b, e := ntp.Encode(x.bits, at(seconds, x.atto))
			if e != api.OK || len(b) != x.bits/8 || !bytes.Equal(b[x.bits/16:], x.tail) {
				t.Errorf("Encode(%d, %d seconds and %d) = %x, %d; want ..%x", x.bits, seconds, x.atto, b, e, x.tail)
			}
		}
	}
}

// P20.1, P3: times of all sizes, in each form.
func TestEncode(t *testing.T) {
	for _, bits := range forms {
		seen := map[api.Errno]int{}
		for _, n := range moments() {
			if fits(n) {
				seen[checkEncode(t, bits, n)]++
			}
		}
		if bits != 128 {
			checkErrors(t, seen, api.OK)
			continue
		}
		checkErrors(t, seen, api.OK, api.ErrOver)
	}
}

// P20.1: of 128 bits the first and the last second are taken with all their attoseconds, those beside them are not; the other forms wrap.
func TestEncodeOver(t *testing.T) {
	for _, x := range []struct {
		n *big.Int
		e api.Errno
	}{
		{time(power(63, -1), 0), api.OK}, {time(power(63, -1), second-1), api.OK}, {time(power(63, 0), 0), api.ErrOver}, {time(power(63, 0), 1), api.ErrOver}, {time(power(64, 0), 0), api.ErrOver}, {time(power(64, 1), second/2), api.ErrOver},
		{time(big.NewInt(math.MinInt), 0), api.OK}, {time(big.NewInt(math.MinInt), 1), api.OK}, {time(big.NewInt(math.MinInt), -1), api.ErrOver}, {time(big.NewInt(math.MinInt), -second), api.ErrOver}, {time(new(big.Int).Neg(power(64, 0)), 0), api.ErrOver},
		{bigOf(least), api.ErrOver}, {bigOf(most), api.ErrOver}, {bigOf(api.Wide{Hi: math.MinInt64, Lo: second}), api.ErrOver},
	} {
		if b, e := ntp.Encode(128, wideOf(x.n)); e != x.e || (b == nil) != (e != api.OK) {
			t.Errorf("Encode(128, %s) = %x, %d; want %d", x.n, b, e, x.e)
		}
		for _, bits := range forms {
			checkEncode(t, bits, x.n)
		}
	}
}

// P20.1, P20.2, R2, R3: bits of which there is no form are told first, whatever else is wrong.
func TestNoForm(t *testing.T) {
	for _, bits := range noForms {
		for _, n := range []api.Wide{{}, of(1), of(-1), at(1, second/2), {Hi: 1}, {Hi: -1}, least, most} {
			if b, e := ntp.Encode(bits, n); b != nil || e != api.ErrArg {
				t.Errorf("Encode(%d, %s) = %x, %d; want ErrArg", bits, bigOf(n), b, e)
			}
			for _, many := range []int{0, 1, 2, 4, 7, 8, 15, 16, 32, 64, 128} {
				b := append(make([]byte, many), 1)[:many]
				if got, e := ntp.Decode(bits, b, n); got != (api.Wide{}) || e != api.ErrArg {
					t.Errorf("Decode(%d, %d octets, %s) = %s, %d; want ErrArg", bits, many, bigOf(n), bigOf(got), e)
				}
			}
			if got, e := ntp.Decode(bits, nil, n); got != (api.Wide{}) || e != api.ErrArg {
				t.Errorf("Decode(%d, nil, %s) = %s, %d; want ErrArg", bits, bigOf(n), bigOf(got), e)
			}
		}
	}
}

// P20.2, R2, R3: another number of octets is ErrForm, ahead of a code that is none and of a pivot without room.
func TestOctets(t *testing.T) {
	for _, bits := range forms {
		for many := range 40 {
			for _, fill := range []byte{0, 1, 255} {
				for _, about := range []api.Wide{{}, at(1<<40, 0), least, most} {
					b := bytes.Repeat([]byte{fill}, many)
					got, e := ntp.Decode(bits, b, about)
					if many*8 != bits && (got != (api.Wide{}) || e != api.ErrForm) || many*8 == bits && e == api.ErrForm {
						t.Errorf("Decode(%d, %x, %s) = %s, %d", bits, b, bigOf(about), bigOf(got), e)
					}
				}
			}
		}
		for _, b := range [][]byte{nil, {}, make([]byte, 0, 16), make([]byte, 256+bits/8), make([]byte, 1<<16+bits/8), make([]byte, 1<<20)} {
			if got, e := ntp.Decode(bits, b, of(0)); got != (api.Wide{}) || e != api.ErrForm {
				t.Errorf("Decode(%d, %d octets) = %s, %d; want ErrForm", bits, len(b), bigOf(got), e)
			}
		}
	}
}

// P20.2: just of 128 bits a code may be none; R2: that is told whatever the seconds and the pivot are.
func TestFine(t *testing.T) {
	for _, x := range []struct {
		code uint64
		atto int
		e    api.Errno
	}{
		{0, 0, api.OK}, {1, 0, api.ErrFine}, {17, 0, api.ErrFine}, {18, 1, api.OK}, {19, 0, api.ErrFine}, {35, 0, api.ErrFine}, {36, 2, api.OK}, {37, 0, api.ErrFine},
		{1 << 63, second / 2, api.OK}, {1<<63 - 1, 0, api.ErrFine}, {1<<63 + 1, 0, api.ErrFine}, {18446744073709551597, second - 1, api.OK}, {18446744073709551598, 0, api.ErrFine}, {math.MaxUint64, 0, api.ErrFine},
	} {
		for _, seconds := range []int{0, 1, -1, math.MaxInt, math.MinInt} {
			whole := new(big.Int).Lsh(new(big.Int).SetUint64(uint64(seconds)), 64)
			b := whole.Add(whole, new(big.Int).SetUint64(x.code)).FillBytes(make([]byte, 16))
			want := of(0)
			if x.e == api.OK {
				want = at(seconds, x.atto)
			}
			for _, about := range []api.Wide{{}, least, most} {
				if n, e := ntp.Decode(128, b, about); n != want || e != x.e {
					t.Errorf("Decode(128, %x) = %s, %d; want %s, %d", b, bigOf(n), e, bigOf(want), x.e)
				}
			}
		}
	}
	for _, bits := range []int{32, 64} {
		for turn := range bits / 2 {
			b := new(big.Int).Lsh(big.NewInt(1), uint(turn)).FillBytes(make([]byte, bits/8))
			if e := checkDecode(t, bits, b, big.NewInt(0)); e != api.OK {
				t.Errorf("Decode(%d, %x): %d", bits, b, e)
			}
		}
	}
}

// P20.2: of a code of two or four octets the least attosecond is told.
func TestLeastAttosecond(t *testing.T) {
	for _, x := range []struct {
		b    []byte
		atto int
	}{
		{[]byte{0, 0, 0, 1}, second / 65536}, {[]byte{0, 0, 255, 255}, second / 65536 * 65535}, {[]byte{0, 0, 0, 0, 0, 0, 0, 1}, 232830644}, {[]byte{0, 0, 0, 0, 0, 0, 0, 2}, 465661288}, {[]byte{0, 0, 0, 0, 255, 255, 255, 255}, 999999999767169357},
	} {
		if n, e := ntp.Decode(8*len(x.b), x.b, of(0)); n != of(x.atto) || e != api.OK {
			t.Errorf("Decode(%x) = %s, %d; want %d", x.b, bigOf(n), e, x.atto)
		}
	}
}

// P20.2: the field is seconds and attoseconds, so that half an era from the pivot is told at the attosecond.
func TestEra(t *testing.T) {
	for _, bits := range []int{32, 64} {
		era := 1 << (bits / 2)
		for _, mid := range []int{0, 1, -1, 7, 3 * era, -3 * era, 5*era/2 + 3, 1 << 61, -1 << 61} {
			for _, atto := range []int{0, second / 2, second / 65536, second - second/65536} {
				first := time(big.NewInt(int64(mid-era/2)), atto)
				b, _ := ntp.Encode(bits, wideOf(first))
				for by := -2; by <= 2; by++ {
					want := first
					if by > 0 {
						want = time(big.NewInt(int64(mid+era/2)), atto)
					}
					about := plus(time(big.NewInt(int64(mid)), atto), by)
					if n, e := ntp.Decode(bits, b, wideOf(about)); n != wideOf(want) || e != api.OK {
						t.Errorf("Decode(%d, %x, %s) = %s, %d; want %s", bits, b, about, bigOf(n), e, want)
					}
				}
			}
		}
	}
}

// P20.2: at a Wide's ends the number, or the era's beginning, may not fit; of 128 bits that is of no account.
func TestPivotOver(t *testing.T) {
	for _, bits := range []int{32, 64} {
		seen := map[api.Errno]int{}
		half := time(power(bits/2-1, 0), 0)
		for by := -2; by <= 2; by++ {
			for _, about := range []*big.Int{plus(bigOf(least), by), plus(bigOf(most), by), plus(new(big.Int).Add(bigOf(least), half), by), plus(new(big.Int).Sub(bigOf(most), half), by)} {
				for _, from := range []*big.Int{bigOf(least), bigOf(most), about, big.NewInt(0)} {
					for on := -1; on <= 1; on++ {
						// Of a number that does not fit itself there are octets, too.
						n := time(new(big.Int).Div(from, big.NewInt(second)), on*second/2)
						b, _ := wantEncode(bits, n)
						if fits(about) {
							seen[checkDecode(t, bits, b, about)]++
						}
					}
				}
			}
		}
		checkErrors(t, seen, api.OK, api.ErrOver)
	}
	b := []byte{128, 0, 0, 0, 0, 0, 0, 0, 128, 0, 0, 0, 0, 0, 0, 0}
	for _, about := range []api.Wide{{}, of(1), at(1<<40, 7), at(math.MaxInt, 0), {Hi: 1 << 62}, {Hi: -1 << 62}, least, most} {
		if n, e := ntp.Decode(128, b, about); n != at(math.MinInt, second/2) || e != api.OK {
			t.Errorf("Decode(128, %x, %s) = %s, %d", b, bigOf(about), bigOf(n), e)
		}
	}
}

// P20.2: of 128 bits the seconds have a sign, each bit of them its place.
func TestSignedSeconds(t *testing.T) {
	for turn := range 64 {
		for _, fill := range []uint64{0, math.MaxUint64} {
			seconds := fill ^ 1<<turn
			whole := new(big.Int).Lsh(new(big.Int).SetUint64(seconds), 64)
			b := whole.FillBytes(make([]byte, 16))
			if n, e := ntp.Decode(128, b, of(0)); n != at(int(seconds), 0) || e != api.OK {
				t.Errorf("Decode(128, %x) = %s, %d; want %d seconds", b, bigOf(n), e, int(seconds))
			}
			checkDecode(t, 128, b, big.NewInt(0))
		}
	}
}

// P20.1, P20.2: in the shortest form each second of an era, and each code, comes again.
func TestShort(t *testing.T) {
	for n := range 65536 {
		for _, b := range [][]byte{{byte(n >> 8), byte(n), 0, 0}, {0, 0, byte(n >> 8), byte(n)}} {
			got, e := ntp.Decode(32, b, at(32768, 0))
			want := at(n, 0)
			if b[0] == 0 && b[1] == 0 {
				want = of(second / 65536 * n)
			}
			if e != api.OK || got != want {
				t.Fatalf("Decode(32, %x) = %s, %d; want %s", b, bigOf(got), e, bigOf(want))
			}
			if back, e := ntp.Encode(32, got); !bytes.Equal(back, b) || e != api.OK {
				t.Fatalf("Encode(32, %s) = %x, %d; want %x", bigOf(got), back, e, b)
			}
		}
	}
}

// R4, R5: octets that are handed in stay as they are, spare room included; those that are answered are new each time.
func TestMemory(t *testing.T) {
	all := bytes.Repeat([]byte{9, 0, 7, 128, 5}, 8)
	kept := bytes.Clone(all)
	for _, bits := range forms {
		b := all[5 : 5+bits/8]
		one, e := ntp.Decode(bits, b, of(0))
		two, f := ntp.Decode(bits, b, of(0))
		if one != two || e != f || !bytes.Equal(all, kept) {
			t.Errorf("Decode(%d, %x) = %s, %d, and %s, %d; left %x", bits, b, bigOf(one), e, bigOf(two), f, all)
		}
		n := at(0x01020304, second/2)
		want, _ := wantEncode(bits, bigOf(n))
		first, _ := ntp.Encode(bits, n)
		second, _ := ntp.Encode(bits, n)
		for i := range first {
			first[i] = 77
		}
		_ = append(first[:1], bytes.Repeat([]byte{66}, cap(first)-1)...)
		if third, e := ntp.Encode(bits, n); !bytes.Equal(second, want) || !bytes.Equal(third, want) || e != api.OK {
			t.Errorf("Encode(%d, %s) turned into %x, and again %x, %d; want %x", bits, bigOf(n), second, third, e, want)
		}
	}
}

// drawn answers a drawn number of any size.
func drawn(r *rand.Rand) *big.Int {
	return new(big.Int).Rsh(bigOf(api.Wide{Hi: int64(r.Uint64()), Lo: r.Uint64()}), uint(r.IntN(127)))
}

// P20.1, P20.2: drawn times, octets and pivots, the same ones each time; R1: any bits.
func TestDrawn(t *testing.T) {
	r := rand.New(rand.NewPCG(20, 1))
	encode, decode := map[api.Errno]int{}, map[api.Errno]int{}
	for range 6000 {
		bits := append([]int{r.IntN(200)}, forms...)[r.IntN(4)]
		n := drawn(r)
		encode[checkEncode(t, bits, n)]++
		if b, e := ntp.Encode(bits, wideOf(n)); e == api.OK {
			decode[checkDecode(t, bits, b, drawn(r))]++
		}
		b := make([]byte, max(0, bits/8+r.IntN(7)/6))
		for i := range b {
			b[i] = byte(r.Uint64() >> r.IntN(64))
		}
		decode[checkDecode(t, bits, b, drawn(r))]++
		far := new(big.Int).Abs(drawn(r))
		decode[checkDecode(t, bits, b, new(big.Int).Sub(bigOf(most), far.Rsh(far, 40)))]++
		decode[checkDecode(t, bits, b, new(big.Int).Add(bigOf(least), far))]++
	}
	checkErrors(t, encode, api.OK, api.ErrArg, api.ErrOver)
	checkErrors(t, decode, api.OK, api.ErrArg, api.ErrForm, api.ErrFine, api.ErrOver)
}

// R5: many ask at once, refused ones between, and each has its answer.
func TestAtOnce(t *testing.T) {
	var together sync.WaitGroup
	faults := make([]string, 16)
	for n := range faults {
		together.Go(func() {
			for i := range 200 {
				bits := append([]int{16}, forms...)[i%4]
				about := time(big.NewInt(int64(i*i*i*n-5000)), i*(second/250))
				want, e := wantEncode(bits, about)
				got, f := ntp.Encode(bits, wideOf(about))
				if !bytes.Equal(got, want) || f != e {
					faults[n] = fmt.Sprint("Encode ", bits, about, got, f)
				}
				back, e := wantDecode(bits, got, about)
				if n2, g := ntp.Decode(bits, got, wideOf(about)); n2 != wideOf(back) || g != e {
					faults[n] = fmt.Sprint("Decode ", bits, got, about, n2, g)
				}
			}
		})
	}
	together.Wait()
	for _, fault := range faults {
		if fault != "" {
			t.Error(fault)
		}
	}
}
