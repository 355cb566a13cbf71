package face

import (
	"math"
	"math/rand/v2"
	"testing"

	"epact/api"
)

const lastAtto = 999999999999999999

// attos are those of a second at its ends and within it.
var attos = []int{0, 1, 2, 499999999999999999, 500000000000000000, lastAtto - 1, lastAtto}

// noAttos are just beyond a second, on either side, and far from it.
var noAttos = []int{-1, -2, -lastAtto, -lastAtto - 1, lastAtto + 1, lastAtto + 2, 2 * lastAtto, math.MaxInt, math.MinInt}

// ends answers ints of all sizes: powers of two and of ten on both sides of 0, the limits of a time of day, and what is beside them.
func ends() []int {
	list := []int{math.MinInt, math.MinInt + 1, math.MinInt + 2, math.MaxInt, math.MaxInt - 1, math.MaxInt - 2}
	add := func(n int) {
		for more := -2; more <= 2; more++ {
			list = append(list, n+more, -n+more)
		}
	}
	for i := range 63 {
		add(1 << i)
	}
	ten := 1
	for range 18 {
		add(ten)
		ten *= 10
	}
	for _, n := range []int{0, 23, 59, 60, 3600, 86399, 86400, ten} {
		add(n)
	}
	return list
}

// drawn answers n ints of all lengths on both sides of 0; the same ones for the same seed.
func drawn(seed uint64, n int) []int {
	source := rand.New(rand.NewPCG(seed, 6))
	list := make([]int, n)
	for i := range list {
		list[i] = int(source.Uint64()) >> source.IntN(64)
	}
	return list
}

// wantValid says once more which times of day there are, by what they may not be.
func wantValid(x api.Time) bool {
	switch {
	case x.Hour < 0, x.Hour >= 24, x.Min < 0, x.Min >= 60, x.Sec < 0, x.Sec >= 61, x.Atto < 0, x.Atto >= 1000000000000000000:
		return false
	case x.Sec == 60:
		return x.Hour*60+x.Min == 1439
	}
	return true
}

// checkTime holds what Valid and Sec answer of x against what the chapter says, and that Time undoes it.
func checkTime(t *testing.T, x api.Time) bool {
	t.Helper()
	valid := wantValid(x)
	if Valid(x) != valid {
		t.Fatalf("Valid(%v) = %t", x, !valid)
	}
	sec, atto, e := Sec(x)
	if !valid {
		if sec != 0 || atto != 0 || e != api.ErrDate {
			t.Fatalf("Sec(%v) = %d, %d, %d; want ErrDate", x, sec, atto, e)
		}
		return false
	}
	if want := (x.Hour*60+x.Min)*60 + x.Sec; sec != want || atto != x.Atto || e != api.OK {
		t.Fatalf("Sec(%v) = %d, %d, %d; want %d, %d", x, sec, atto, e, want, x.Atto)
	}
	if y, e := Time(sec, atto); y != x || e != api.OK {
		t.Fatalf("Time(%d, %d) = %v, %d; want %v", sec, atto, y, e, x)
	}
	return true
}

// checkSecond tells that Time(sec, atto) is a time of day that has them, or is refused if they may not be.
func checkSecond(t *testing.T, sec, atto int) bool {
	t.Helper()
	x, e := Time(sec, atto)
	if sec < 0 || sec > 86400 || atto < 0 || atto > lastAtto {
		if x != (api.Time{}) || e != api.ErrArg {
			t.Fatalf("Time(%d, %d) = %v, %d; want ErrArg", sec, atto, x, e)
		}
		return false
	}
	if e != api.OK || !Valid(x) || !wantValid(x) || x.Atto != atto {
		t.Fatalf("Time(%d, %d) = %v, %d", sec, atto, x, e)
	}
	if n, a, e := Sec(x); n != sec || a != atto || e != api.OK {
		t.Fatalf("Time(%d, %d) = %v, whose Sec is %d, %d, %d", sec, atto, x, n, a, e)
	}
	return true
}

// next answers the time of day one second behind x, where 23:59 has a second 60.
func next(x api.Time) api.Time {
	x.Sec++
	if x.Sec >= 60 && !(x.Hour == 23 && x.Min == 59) {
		x.Min, x.Sec = x.Min+1, 0
	}
	if x.Min == 60 {
		x.Hour, x.Min = x.Hour+1, 0
	}
	return x
}

// P6.1, P6.2: times that there are, and the seconds they are in.
func TestTable(t *testing.T) {
	for x, want := range map[api.Time]int{
		{}:                                    0,
		{Atto: 1}:                             0,
		{Atto: lastAtto}:                      0,
		{Sec: 1}:                              1,
		{Sec: 59}:                             59,
		{Sec: 59, Atto: lastAtto}:             59,
		{Min: 1}:                              60,
		{Min: 1, Sec: 1, Atto: 7}:             61,
		{Min: 59, Sec: 59}:                    3599,
		{Hour: 1}:                             3600,
		{Hour: 1, Min: 2, Sec: 3}:             3723,
		{Hour: 11, Min: 59, Sec: 59}:          43199,
		{Hour: 12}:                            43200,
		{Hour: 12, Min: 34, Sec: 56}:          45296,
		{Hour: 22, Min: 59, Sec: 59}:          82799,
		{Hour: 23}:                            82800,
		{Hour: 23, Min: 58, Sec: 59}:          86339,
		{Hour: 23, Min: 59}:                   86340,
		{Hour: 23, Min: 59, Sec: 59}:          86399,
		{Hour: 23, Min: 59, Sec: 60}:          86400,
		{Hour: 23, Min: 59, Sec: 60, Atto: 5}: 86400,
		{Hour: 23, Min: 59, Sec: 60, Atto: lastAtto}: 86400,
	} {
		if !Valid(x) {
			t.Errorf("Valid(%v) = false", x)
		}
		if sec, atto, e := Sec(x); sec != want || atto != x.Atto || e != api.OK {
			t.Errorf("Sec(%v) = %d, %d, %d; want %d, %d", x, sec, atto, e, want, x.Atto)
		}
		if y, e := Time(want, x.Atto); y != x || e != api.OK {
			t.Errorf("Time(%d, %d) = %v, %d; want %v", want, x.Atto, y, e, x)
		}
	}
}

// P6.1, P6.2: times that there are not.
func TestNoTime(t *testing.T) {
	for _, x := range []api.Time{
		{Hour: -1}, {Hour: 24}, {Hour: 25}, {Hour: 24, Min: 0, Sec: 0, Atto: 1}, {Hour: -23}, {Hour: 24, Min: 59, Sec: 60},
		{Min: -1}, {Min: 60}, {Min: 61}, {Hour: 23, Min: 60}, {Hour: 23, Min: -1}, {Hour: 23, Min: 60, Sec: 60}, {Hour: 1, Min: -1},
		{Sec: -1}, {Sec: 60}, {Sec: 61}, {Min: 1, Sec: -1}, {Min: 59, Sec: 60}, {Hour: 23, Sec: 60}, {Hour: 12, Min: 34, Sec: 60},
		{Hour: 22, Min: 59, Sec: 60}, {Hour: 23, Min: 58, Sec: 60}, {Hour: 23, Min: 59, Sec: 61}, {Hour: 23, Min: 59, Sec: -1},
		{Hour: 11, Min: 59, Sec: 60}, {Hour: 23, Min: 59, Sec: 62},
		{Atto: -1}, {Atto: lastAtto + 1}, {Hour: 23, Min: 59, Sec: 60, Atto: -1}, {Hour: 23, Min: 59, Sec: 60, Atto: lastAtto + 1},
		{Hour: 23, Min: 59, Sec: 59, Atto: lastAtto + 1}, {Sec: 1, Atto: -1},
		{Hour: 1 << 32}, {Min: 1 << 32}, {Sec: 1 << 32}, {Hour: 256}, {Min: 256}, {Sec: 256}, {Hour: 1 << 8, Min: 1 << 16, Sec: 1 << 32},
		{Hour: math.MaxInt}, {Min: math.MaxInt}, {Sec: math.MaxInt}, {Atto: math.MaxInt},
		{Hour: math.MinInt}, {Min: math.MinInt}, {Sec: math.MinInt}, {Atto: math.MinInt},
		{Hour: math.MaxInt, Min: math.MaxInt, Sec: math.MaxInt, Atto: math.MaxInt},
		{Hour: math.MinInt, Min: math.MinInt, Sec: math.MinInt, Atto: math.MinInt},
	} {
		if Valid(x) {
			t.Errorf("Valid(%v) = true", x)
		}
		if sec, atto, e := Sec(x); sec != 0 || atto != 0 || e != api.ErrDate {
			t.Errorf("Sec(%v) = %d, %d, %d; want ErrDate", x, sec, atto, e)
		}
	}
}

// P6.2: seconds and attoseconds that may not be, one of them or both.
func TestNoSecond(t *testing.T) {
	for _, sec := range []int{-1, -2, -60, -86399, -86400, -86401, 86401, 86402, 86460, 90000, 172800, 1 << 32, 1<<32 + 1, math.MaxInt, math.MinInt} {
		for _, atto := range append(attos, noAttos...) {
			if x, e := Time(sec, atto); x != (api.Time{}) || e != api.ErrArg {
				t.Errorf("Time(%d, %d) = %v, %d; want ErrArg", sec, atto, x, e)
			}
		}
	}
	for _, sec := range []int{0, 1, 59, 60, 3599, 3600, 86399, 86400} {
		for _, atto := range noAttos {
			if x, e := Time(sec, atto); x != (api.Time{}) || e != api.ErrArg {
				t.Errorf("Time(%d, %d) = %v, %d; want ErrArg", sec, atto, x, e)
			}
		}
	}
}

// P6.1, P6.2: every hour, minute and second that there is, and those just beyond on either side.
func TestEveryTime(t *testing.T) {
	seconds := 0
	for hour := -2; hour <= 25; hour++ {
		for minute := -2; minute <= 61; minute++ {
			for second := -2; second <= 62; second++ {
				x := api.Time{Hour: hour, Min: minute, Sec: second}
				if checkTime(t, x) {
					seconds++
				}
				x.Atto = lastAtto
				checkTime(t, x)
				x.Atto = lastAtto + 1
				checkTime(t, x)
				x.Atto = -1
				checkTime(t, x)
			}
		}
	}
	if seconds != 86401 {
		t.Errorf("%d seconds are in a day; want 86401", seconds)
	}
}

// P6.2: second by second through the day, and not beyond it.
func TestSecondBySecond(t *testing.T) {
	x := api.Time{}
	for sec := range 86401 {
		if y, e := Time(sec, 0); y != x || e != api.OK {
			t.Fatalf("Time(%d, 0) = %v, %d; want %v", sec, y, e, x)
		}
		for _, atto := range attos {
			checkSecond(t, sec, atto)
		}
		x = next(x)
	}
	if x != (api.Time{Hour: 23, Min: 59, Sec: 61}) {
		t.Errorf("the seconds end at %v", x)
	}
}

// P6.1, P6.2: each part of a time at every size, beside others at their ends.
func TestTimeEverywhere(t *testing.T) {
	sizes := append(ends(), drawn(1, 2000)...)
	there, not := 0, 0
	count := func(x api.Time) {
		if checkTime(t, x) {
			there++
		} else {
			not++
		}
	}
	for _, n := range sizes {
		for _, x := range []api.Time{
			{}, {Atto: lastAtto}, {Hour: 12, Min: 34, Sec: 56, Atto: 78}, {Hour: 22, Min: 59, Sec: 59},
			{Hour: 23, Min: 58, Sec: 60}, {Hour: 22, Min: 59, Sec: 60}, {Hour: 23, Min: 59, Sec: 59, Atto: lastAtto},
			{Hour: 23, Min: 59, Sec: 60}, {Hour: 23, Min: 59, Sec: 60, Atto: lastAtto}, {Hour: -1, Min: -1, Sec: -1, Atto: -1},
		} {
			count(api.Time{Hour: n, Min: x.Min, Sec: x.Sec, Atto: x.Atto})
			count(api.Time{Hour: x.Hour, Min: n, Sec: x.Sec, Atto: x.Atto})
			count(api.Time{Hour: x.Hour, Min: x.Min, Sec: n, Atto: x.Atto})
			count(api.Time{Hour: x.Hour, Min: x.Min, Sec: x.Sec, Atto: n})
		}
		count(api.Time{Hour: n, Min: n, Sec: n, Atto: n})
	}
	if there == 0 || not == 0 {
		t.Errorf("%d times are there, %d are not: want some of both", there, not)
	}
}

// P6.2: seconds and attoseconds of every size.
func TestSecondEverywhere(t *testing.T) {
	source := rand.New(rand.NewPCG(2, 6))
	taken, refused := 0, 0
	count := func(sec, atto int) {
		if checkSecond(t, sec, atto) {
			taken++
		} else {
			refused++
		}
	}
	sizes := append(ends(), drawn(3, 300)...)
	for _, sec := range sizes {
		for _, atto := range sizes {
			count(sec, atto)
		}
	}
	for range 100000 {
		count(source.IntN(86401), source.IntN(lastAtto+1))
	}
	if taken == 0 || refused == 0 {
		t.Errorf("%d seconds are taken, %d refused: want some of both", taken, refused)
	}
}

// The section 'Ways': the check takes any kind of whole numbers, at the ends of each.
func TestWithin(t *testing.T) {
	type own int16
	for i, ok := range []bool{
		within(int8(0), math.MaxInt8), within(int8(math.MaxInt8), math.MaxInt8), within(uint8(0), 0), within(uint64(math.MaxUint64), math.MaxUint64),
		within(own(3), 3), within(int64(math.MaxInt64), math.MaxInt64), within(uint16(2), 3), within(int32(9), 10), within(uint32(1<<31), 1<<31),
	} {
		if !ok {
			t.Errorf("number %d is refused", i)
		}
	}
	for i, ok := range []bool{
		within(int8(math.MinInt8), math.MaxInt8), within(int8(-1), math.MaxInt8), within(uint8(1), 0), within(uint64(math.MaxUint64), math.MaxUint64-1),
		within(own(-3), 3), within(own(4), 3), within(int64(math.MinInt64), math.MaxInt64), within(int(0), -1), within(uint(4), 3),
	} {
		if ok {
			t.Errorf("number %d is taken", i)
		}
	}
}
