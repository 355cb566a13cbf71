package greg

import (
	"math"
	"math/big"
	"math/rand/v2"
	"testing"
	"time"

	"epact/api"
)

// The first and the last day of the range, worked out by another program.
var (
	firstDate = api.Date{Year: -3010358732, Month: 12, Day: 3}
	lastDate  = api.Date{Year: 3010362448, Month: 10, Day: 30}
)

// bigMod answers n by d's rest, from 0 to d - 1, by math/big.
func bigMod(n *big.Int, d int64) int64 {
	return new(big.Int).Mod(n, big.NewInt(d)).Int64()
}

// wantLeap says what a leap year is, by math/big.
func wantLeap(year int) bool {
	n := big.NewInt(int64(year))
	if bigMod(n, 100) == 0 {
		return bigMod(n, 400) == 0
	}
	return bigMod(n, 4) == 0
}

// wantLength says the months' lengths once more, month by month.
func wantLength(year, month int) int {
	switch month {
	case 1, 3, 5, 7, 8, 10, 12:
		return 31
	case 4, 6, 9, 11:
		return 30
	case 2:
		if wantLeap(year) {
			return 29
		}
		return 28
	}
	return 0
}

// wantDay works out the day of a date that there is, by math/big, with years that begin in March: in range or not.
func wantDay(d api.Date) *big.Int {
	year, month := big.NewInt(int64(d.Year)), int64(d.Month)-3
	if month < 0 {
		year.Sub(year, big.NewInt(1))
		month += 12
	}
	n := new(big.Int).Mul(year, big.NewInt(365))
	for _, part := range []struct{ sign, by int64 }{{1, 4}, {-1, 100}, {1, 400}} {
		q := new(big.Int).Div(year, big.NewInt(part.by))
		n.Add(n, q.Mul(q, big.NewInt(part.sign)))
	}
	return n.Add(n, big.NewInt((153*month+2)/5+int64(d.Day)-1-678881))
}

// ends answers ints of all sizes: powers of two and of ten on both sides of 0, the years of the range's ends, and what is beside them.
func ends() []int {
	list := []int{math.MinInt, math.MinInt + 1, math.MinInt + 2, math.MaxInt, math.MaxInt - 1, math.MaxInt - 2}
	add := func(n int) {
		for more := -5; more <= 5; more++ {
			list = append(list, n+more, -n+more)
		}
	}
	for i := range 62 {
		add(1 << i)
	}
	ten := 1
	for range 18 {
		ten *= 10
		add(ten)
		add(4 * (ten / 10))
	}
	add(firstDate.Year)
	add(lastDate.Year)
	for _, n := range []int{0, 400, 1600, 1700, 1800, 1858, 1900, 2000, 2100, 2400, math.MaxInt - 6} {
		add(n)
	}
	return list
}

// drawn answers n ints of all lengths on both sides of 0; the same ones for the same seed.
func drawn(seed uint64, n int) []int {
	source := rand.New(rand.NewPCG(seed, 5))
	list := make([]int, n)
	for i := range list {
		list[i] = int(source.Uint64()) >> source.IntN(64)
	}
	return list
}

// checkDay holds what Valid and Day answer of d against what the calendar says.
func checkDay(t *testing.T, d api.Date) {
	t.Helper()
	valid := d.Day >= 1 && d.Day <= wantLength(d.Year, d.Month)
	if Valid(d) != valid {
		t.Fatalf("Valid(%v) = %t", d, !valid)
	}
	want, wantE := 0, api.ErrDate
	if valid {
		wantE = api.ErrOver
		if n := wantDay(d); n.CmpAbs(big.NewInt(1<<40)) <= 0 {
			want, wantE = int(n.Int64()), api.OK
		}
	}
	if n, e := Day(d); n != want || e != wantE {
		t.Fatalf("Day(%v) = %d, %d; want %d, %d", d, n, e, want, wantE)
	}
}

// checkBoth tells that day n is date d, that there is such a date, and that it has that day.
func checkBoth(t *testing.T, n int, d api.Date) {
	t.Helper()
	if got, e := Date(n); got != d || e != api.OK {
		t.Fatalf("Date(%d) = %v, %d; want %v", n, got, e, d)
	}
	if !Valid(d) {
		t.Fatalf("Valid(%v) = false", d)
	}
	if got, e := Day(d); got != n || e != api.OK {
		t.Fatalf("Day(%v) = %d, %d; want %d", d, got, e, n)
	}
}

// next answers the date of the day behind d.
func next(d api.Date) api.Date {
	d.Day++
	if d.Day > wantLength(d.Year, d.Month) {
		d.Month, d.Day = d.Month+1, 1
	}
	if d.Month > 12 {
		d.Year, d.Month = d.Year+1, 1
	}
	return d
}

// P5.1
func TestLeapTable(t *testing.T) {
	for year, want := range map[int]bool{
		0: true, 1: false, 2: false, 3: false, 4: true, 100: false, 200: false, 300: false, 400: true, 404: true,
		1582: false, 1600: true, 1700: false, 1800: false, 1858: false, 1900: false, 1904: true, 1972: true,
		1996: true, 1999: false, 2000: true, 2001: false, 2004: true, 2016: true, 2100: false, 2400: true,
		-1: false, -2: false, -3: false, -4: true, -5: false, -8: true, -96: true, -100: false, -104: true,
		-200: false, -300: false, -396: true, -400: true, -404: true, -500: false, -800: true, -1900: false, -2000: true,
		math.MaxInt: false, math.MaxInt - 3: true, math.MaxInt - 7: false, math.MinInt: true, math.MinInt + 1: false,
		math.MinInt + 4: true, math.MinInt + 8: false,
	} {
		if Leap(year) != want {
			t.Errorf("Leap(%d) = %t", year, !want)
		}
	}
}

// P5.1: years of every size, on both sides of 0.
func TestLeapEverywhere(t *testing.T) {
	years := append(ends(), drawn(1, 20000)...)
	for year := -2500; year <= 2500; year++ {
		years = append(years, year)
	}
	leaps := 0
	for _, year := range years {
		want := wantLeap(year)
		if want {
			leaps++
		}
		if Leap(year) != want {
			t.Fatalf("Leap(%d) = %t", year, !want)
		}
	}
	if leaps == 0 || leaps == len(years) {
		t.Errorf("%d leap years of %d: want some of both", leaps, len(years))
	}
}

// P5.1
func TestLengthTable(t *testing.T) {
	plain := []int{31, 28, 31, 30, 31, 30, 31, 31, 30, 31, 30, 31}
	for _, year := range []int{2000, 2001, 2004, 1900, 0, -1, -4, -100, -400, math.MaxInt, math.MinInt} {
		for i, want := range plain {
			if i == 1 && wantLeap(year) {
				want = 29
			}
			if n := Length(year, i+1); n != want {
				t.Errorf("Length(%d, %d) = %d; want %d", year, i+1, n, want)
			}
		}
	}
}

// P5.1: months that are none, of every size, and those that are.
func TestLengthEverywhere(t *testing.T) {
	years := append(ends(), drawn(2, 100)...)
	months := append(ends(), drawn(3, 100)...)
	for month := -30; month <= 30; month++ {
		months = append(months, month)
	}
	for _, year := range years {
		for _, month := range months {
			if n := Length(year, month); n != wantLength(year, month) {
				t.Fatalf("Length(%d, %d) = %d; want %d", year, month, n, wantLength(year, month))
			}
		}
	}
}

// P5.1, P5.2: dates that there are not.
func TestNoDate(t *testing.T) {
	for _, d := range []api.Date{
		{}, {Year: 2000}, {Year: 2000, Month: 1}, {Year: 2000, Day: 1}, {Year: 1, Month: 1},
		{Year: 1900, Month: 2, Day: 29}, {Year: 2001, Month: 2, Day: 29}, {Year: -1, Month: 2, Day: 29},
		{Year: -100, Month: 2, Day: 29}, {Year: 2100, Month: 2, Day: 29}, {Year: 2000, Month: 2, Day: 30},
		{Year: 0, Month: 2, Day: 30}, {Year: 2000, Month: 1, Day: 32}, {Year: 2000, Month: 4, Day: 31},
		{Year: 2000, Month: 6, Day: 31}, {Year: 2000, Month: 9, Day: 31}, {Year: 2000, Month: 11, Day: 31},
		{Year: 2000, Month: 12, Day: 32}, {Year: 2000, Month: 0, Day: 31}, {Year: 2000, Month: 13, Day: 1},
		{Year: 2000, Month: 14, Day: 1}, {Year: 2000, Month: -1, Day: 1}, {Year: 2000, Month: -11, Day: 1},
		{Year: 2000, Month: 1, Day: -1}, {Year: 2000, Month: 1, Day: math.MaxInt}, {Year: 2000, Month: 1, Day: math.MinInt},
		{Year: 2000, Month: math.MaxInt, Day: 1}, {Year: 2000, Month: math.MinInt, Day: 1},
		{Year: 2000, Month: 1 << 32, Day: 1}, {Year: 2000, Month: 1<<32 + 1, Day: 1}, {Year: 2000, Month: 1, Day: 1<<32 + 1},
		// Out of range too, but that there is no such date is told first.
		{Year: math.MaxInt, Month: 2, Day: 29}, {Year: math.MinInt, Month: 2, Day: 30}, {Year: math.MinInt, Month: 13, Day: 1},
		{Year: 1 << 41, Month: 0, Day: 1}, {Year: -1 << 41, Month: 1, Day: 32}, {Year: math.MaxInt, Month: math.MaxInt, Day: math.MaxInt},
		{Year: math.MinInt, Month: math.MinInt, Day: math.MinInt}, {Year: lastDate.Year, Month: 11, Day: 31}, {Year: firstDate.Year, Month: 11, Day: 31},
	} {
		if Valid(d) {
			t.Errorf("Valid(%v) = true", d)
		}
		if n, e := Day(d); n != 0 || e != api.ErrDate {
			t.Errorf("Day(%v) = %d, %d; want ErrDate", d, n, e)
		}
	}
}

// P5.2: the chapter's examples, and days that are known.
func TestDayAndDateTable(t *testing.T) {
	for n, d := range map[int]api.Date{
		0:        {Year: 1858, Month: 11, Day: 17},
		-1:       {Year: 1858, Month: 11, Day: 16},
		1:        {Year: 1858, Month: 11, Day: 18},
		51544:    {Year: 2000, Month: 1, Day: 1},
		-678941:  {Year: 0, Month: 1, Day: 1},
		-678942:  {Year: -1, Month: 12, Day: 31},
		-678882:  {Year: 0, Month: 2, Day: 29},
		-678881:  {Year: 0, Month: 3, Day: 1},
		-678575:  {Year: 1, Month: 1, Day: 1},
		-679306:  {Year: -1, Month: 1, Day: 1},
		-679307:  {Year: -2, Month: 12, Day: 31},
		-825038:  {Year: -400, Month: 1, Day: 1},
		-825039:  {Year: -401, Month: 12, Day: 31},
		-2400001: {Year: -4713, Month: 11, Day: 24},
		15020:    {Year: 1900, Month: 1, Day: 1},
		15078:    {Year: 1900, Month: 2, Day: 28},
		15079:    {Year: 1900, Month: 3, Day: 1},
		36204:    {Year: 1958, Month: 1, Day: 1},
		37300:    {Year: 1961, Month: 1, Day: 1},
		40587:    {Year: 1970, Month: 1, Day: 1},
		41317:    {Year: 1972, Month: 1, Day: 1},
		41498:    {Year: 1972, Month: 6, Day: 30},
		44244:    {Year: 1980, Month: 1, Day: 6},
		51543:    {Year: 1999, Month: 12, Day: 31},
		51603:    {Year: 2000, Month: 2, Day: 29},
		51604:    {Year: 2000, Month: 3, Day: 1},
		51909:    {Year: 2000, Month: 12, Day: 31},
		51910:    {Year: 2001, Month: 1, Day: 1},
		57753:    {Year: 2016, Month: 12, Day: 31},
		57754:    {Year: 2017, Month: 1, Day: 1},
	} {
		checkBoth(t, n, d)
	}
	if n, e := Day(api.Date{Year: 1900, Month: 2, Day: 29}); n != 0 || e != api.ErrDate {
		t.Errorf("Day of February 29, 1900: %d, %d; want ErrDate", n, e)
	}
}

// P5.2: what the library's calendar says.
func TestDayAndDateAsLibrary(t *testing.T) {
	zero := time.Date(1858, 11, 17, 0, 0, 0, 0, time.UTC)
	for n := -1000000; n <= 1000000; n += 13 {
		at := zero.AddDate(0, 0, n)
		checkBoth(t, n, api.Date{Year: at.Year(), Month: int(at.Month()), Day: at.Day()})
	}
}

// P5.2: day by day, through more than two times 400 years on both sides of year 0.
func TestDayByDay(t *testing.T) {
	d := api.Date{Year: -900, Month: 1, Day: 1}
	n, e := Day(d)
	if e != api.OK || int64(n) != wantDay(d).Int64() {
		t.Fatalf("Day(%v) = %d, %d", d, n, e)
	}
	for d.Year < 2500 {
		checkBoth(t, n, d)
		n, d = n+1, next(d)
	}
	if n != 234166 {
		t.Errorf("%v is day %d", d, n)
	}
}

// P5.2: day by day, more than 400 years to either end of the range, and not beyond it.
func TestRangesEnds(t *testing.T) {
	checkBoth(t, -api.MaxDay, firstDate)
	checkBoth(t, api.MaxDay, lastDate)
	n, d := -api.MaxDay, firstDate
	for range 150000 {
		checkBoth(t, n, d)
		n, d = n+1, next(d)
	}
	const back = 150000
	d, e := Date(api.MaxDay - back)
	if e != api.OK {
		t.Fatalf("Date(%d): %d", api.MaxDay-back, e)
	}
	for n := api.MaxDay - back; n <= api.MaxDay; n++ {
		checkBoth(t, n, d)
		d = next(d)
	}
	if d != next(lastDate) {
		t.Errorf("the days end at %v", d)
	}
}

// P5.2: dates that there are, just beyond the range and far from it.
func TestDayOver(t *testing.T) {
	list := []api.Date{
		{Year: firstDate.Year, Month: 12, Day: 2}, {Year: firstDate.Year, Month: 12, Day: 1}, {Year: firstDate.Year, Month: 11, Day: 30},
		{Year: firstDate.Year, Month: 1, Day: 1}, {Year: firstDate.Year - 1, Month: 12, Day: 31},
		{Year: lastDate.Year, Month: 10, Day: 31}, {Year: lastDate.Year, Month: 11, Day: 1}, {Year: lastDate.Year, Month: 12, Day: 31},
		{Year: lastDate.Year + 1, Month: 1, Day: 1},
	}
	for _, year := range []int{
		1 << 32, 1 << 39, 1<<40 - 1, 1 << 40, 1<<40 + 1, 1 << 41, 1 << 53, 1 << 55, 1 << 56, 1 << 57, 1 << 62, 1 << 62 / 365,
		math.MaxInt / 365, math.MaxInt/366 + 1, math.MaxInt/365 + 1, math.MaxInt - 400, math.MaxInt - 3, math.MaxInt,
	} {
		list = append(list, api.Date{Year: year, Month: 1, Day: 1}, api.Date{Year: year, Month: 12, Day: 31},
			api.Date{Year: -year, Month: 1, Day: 1}, api.Date{Year: -year - 1, Month: 12, Day: 31})
	}
	for _, d := range list {
		if !Valid(d) {
			t.Errorf("Valid(%v) = false", d)
		}
		if n, e := Day(d); n != 0 || e != api.ErrOver {
			t.Errorf("Day(%v) = %d, %d; want ErrOver", d, n, e)
		}
	}
}

// P5.2: dates of years, months and days of every size.
func TestDayEverywhere(t *testing.T) {
	small := []int{-12, -1, 0, 1, 2, 3, 4, 6, 7, 8, 11, 12, 13, 27, 28, 29, 30, 31, 32}
	for _, year := range append(ends(), drawn(4, 1000)...) {
		for _, month := range small {
			for _, day := range small {
				checkDay(t, api.Date{Year: year, Month: month, Day: day})
			}
		}
	}
	for _, size := range ends() {
		for _, year := range []int{0, 2000, -2001, firstDate.Year, lastDate.Year, math.MaxInt, math.MinInt} {
			checkDay(t, api.Date{Year: year, Month: size, Day: 1})
			checkDay(t, api.Date{Year: year, Month: 2, Day: size})
			checkDay(t, api.Date{Year: year, Month: size, Day: size})
		}
	}
	for _, year := range drawn(5, 20000) {
		checkDay(t, api.Date{Year: year, Month: 1 + (year&7+year&3)%12, Day: 1 + year&15})
	}
}

// P5.2: years so far off that their days would be in range again if an int let them wrap.
func TestDayWrapped(t *testing.T) {
	word, cycle := new(big.Int).Lsh(big.NewInt(1), 64), big.NewInt(146097)
	for k := int64(-182); k <= 182; k++ {
		cycles := new(big.Int).Mul(word, big.NewInt(k))
		cycles.Div(cycles, cycle)
		for more := -800; more <= 1200; more += 100 {
			year := int(cycles.Int64())*400 + more
			checkDay(t, api.Date{Year: year, Month: 1, Day: 1})
			checkDay(t, api.Date{Year: year + 1, Month: 12, Day: 31})
		}
	}
}

// P5.2: days of every size; those in range have a date, and it has that day again.
func TestDateEverywhere(t *testing.T) {
	days := append(ends(), drawn(6, 50000)...)
	source := rand.New(rand.NewPCG(7, 5))
	for range 50000 {
		days = append(days, source.IntN(2*api.MaxDay+1)-api.MaxDay)
	}
	days = append(days, api.MaxDay+1, -api.MaxDay-1, api.MaxDay+2, -api.MaxDay-2, math.MaxInt-678941, math.MaxInt-678940, math.MinInt+678941)
	inside, outside := 0, 0
	for _, n := range days {
		d, e := Date(n)
		if n < -1<<40 || n > 1<<40 {
			outside++
			if d != (api.Date{}) || e != api.ErrOver {
				t.Fatalf("Date(%d) = %v, %d; want ErrOver", n, d, e)
			}
			continue
		}
		inside++
		checkBoth(t, n, d)
		if wantDay(d).Int64() != int64(n) {
			t.Fatalf("Date(%d) = %v, whose day is %v", n, d, wantDay(d))
		}
	}
	if inside == 0 || outside == 0 {
		t.Errorf("%d days are in range, %d are not: want some of both", inside, outside)
	}
}
