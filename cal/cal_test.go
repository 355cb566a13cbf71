package cal

import (
	"math"
	"math/big"
	"math/rand/v2"
	"testing"
	"time"

	"epact/api"
)

// The days of the range's ends, and the years in which they are, worked out by another program.
const (
	lastDay   = 1 << 40
	firstYear = -3010358732
	lastYear  = 3010362448
)

// place is where a day is: in its year, and in its week.
type place struct{ year, day, weekYear, week, weekday int }

// bigMod answers n by d's rest, from 0 to d - 1, by math/big.
func bigMod(n *big.Int, d int64) int {
	return int(new(big.Int).Mod(n, big.NewInt(d)).Int64())
}

// newYear works out the day of the year's January 1 by math/big: in range or not.
func newYear(year int) *big.Int {
	ahead := new(big.Int).Sub(big.NewInt(int64(year)), big.NewInt(1))
	n := new(big.Int).Mul(ahead, big.NewInt(365))
	for _, part := range []struct{ sign, by int64 }{{1, 4}, {-1, 100}, {1, 400}} {
		q := new(big.Int).Div(ahead, big.NewInt(part.by))
		n.Add(n, q.Mul(q, big.NewInt(part.sign)))
	}
	return n.Sub(n, big.NewInt(678575))
}

// wantWeekday works out a day's weekday by math/big: day -2 was a Monday.
func wantWeekday(n *big.Int) int {
	return bigMod(new(big.Int).Add(n, big.NewInt(2)), 7) + 1
}

// wantLength works out how many days the year has.
func wantLength(year int) int {
	n := big.NewInt(int64(year))
	if bigMod(n, 100) == 0 && bigMod(n, 400) != 0 || bigMod(n, 4) != 0 {
		return 365
	}
	return 366
}

// wantWeeks works out how many weeks the year has: 53, if it begins or ends with a Thursday.
func wantWeeks(year int) int {
	first := newYear(year)
	last := new(big.Int).Add(first, big.NewInt(int64(wantLength(year)-1)))
	if wantWeekday(first) == 4 || wantWeekday(last) == 4 {
		return 53
	}
	return 52
}

// wantYearDay works out the year of a day that is in range, or near to it, and which day of that it is.
func wantYearDay(n int) (year, day int) {
	year = 1858 + n*400/146097
	for newYear(year).Int64() > int64(n) {
		year--
	}
	for newYear(year+1).Int64() <= int64(n) {
		year++
	}
	return year, n - int(newYear(year).Int64()) + 1
}

// wantPlace works out where a day in range is: it is of the year in which its week's Thursday is.
func wantPlace(n int) place {
	p := place{weekday: wantWeekday(big.NewInt(int64(n)))}
	p.year, p.day = wantYearDay(n)
	year, day := wantYearDay(n - p.weekday + 4)
	p.weekYear, p.week = year, (day-1)/7+1
	return p
}

// wantRanged answers the day and OK, if it is in range; else ErrOver.
func wantRanged(n *big.Int) (int, api.Errno) {
	if n.CmpAbs(big.NewInt(lastDay)) > 0 {
		return 0, api.ErrOver
	}
	return int(n.Int64()), api.OK
}

// wantFromYearDay works out what FromYearDay is to answer.
func wantFromYearDay(year, day int) (int, api.Errno) {
	if day < 1 || day > wantLength(year) {
		return 0, api.ErrDate
	}
	n := newYear(year)
	return wantRanged(n.Add(n, big.NewInt(int64(day-1))))
}

// wantFromWeek works out what FromWeek is to answer, by the week in which January 4 is.
func wantFromWeek(year, week, weekday int) (int, api.Errno) {
	if weekday < 1 || weekday > 7 || week < 1 || week > wantWeeks(year) {
		return 0, api.ErrDate
	}
	n := newYear(year)
	n.Add(n, big.NewInt(3))
	n.Add(n, big.NewInt(int64(7*(week-1)+weekday-wantWeekday(n))))
	return wantRanged(n)
}

// checkPlace tells that day n is there, and that it comes again out of its year's day and out of its week's.
func checkPlace(t *testing.T, n int, want place) {
	t.Helper()
	if d := Weekday(n); d != want.weekday {
		t.Fatalf("Weekday(%d) = %d; want %d", n, d, want.weekday)
	}
	if year, day, e := YearDay(n); year != want.year || day != want.day || e != api.OK {
		t.Fatalf("YearDay(%d) = %d, %d, %d; want %v", n, year, day, e, want)
	}
	if year, week, weekday, e := Week(n); year != want.weekYear || week != want.week || weekday != want.weekday || e != api.OK {
		t.Fatalf("Week(%d) = %d, %d, %d, %d; want %v", n, year, week, weekday, e, want)
	}
	if m, e := FromYearDay(want.year, want.day); m != n || e != api.OK {
		t.Fatalf("FromYearDay(%d, %d) = %d, %d; want %d", want.year, want.day, m, e, n)
	}
	if m, e := FromWeek(want.weekYear, want.week, want.weekday); m != n || e != api.OK {
		t.Fatalf("FromWeek(%d, %d, %d) = %d, %d; want %d", want.weekYear, want.week, want.weekday, m, e, n)
	}
}

// checkDay holds what is told of day n, in range or not, against what the calendar says; and answers whether it is in range.
func checkDay(t *testing.T, n int) bool {
	t.Helper()
	if n >= -lastDay && n <= lastDay {
		checkPlace(t, n, wantPlace(n))
		return true
	}
	if d, want := Weekday(n), wantWeekday(big.NewInt(int64(n))); d != want {
		t.Fatalf("Weekday(%d) = %d; want %d", n, d, want)
	}
	if year, day, e := YearDay(n); year != 0 || day != 0 || e != api.ErrOver {
		t.Fatalf("YearDay(%d) = %d, %d, %d; want ErrOver", n, year, day, e)
	}
	if year, week, weekday, e := Week(n); year != 0 || week != 0 || weekday != 0 || e != api.ErrOver {
		t.Fatalf("Week(%d) = %d, %d, %d, %d; want ErrOver", n, year, week, weekday, e)
	}
	return false
}

// checkFromYearDay holds what FromYearDay answers against what the calendar says, and answers which error it was.
func checkFromYearDay(t *testing.T, year, day int) api.Errno {
	t.Helper()
	want, wantE := wantFromYearDay(year, day)
	n, e := FromYearDay(year, day)
	if n != want || e != wantE {
		t.Fatalf("FromYearDay(%d, %d) = %d, %d; want %d, %d", year, day, n, e, want, wantE)
	}
	if e == api.OK {
		if y, d, e := YearDay(n); y != year || d != day || e != api.OK {
			t.Fatalf("YearDay(%d) = %d, %d, %d; want %d, %d", n, y, d, e, year, day)
		}
	}
	return e
}

// checkFromWeek holds what FromWeek answers against what the calendar says, and answers which error it was.
func checkFromWeek(t *testing.T, year, week, weekday int) api.Errno {
	t.Helper()
	want, wantE := wantFromWeek(year, week, weekday)
	n, e := FromWeek(year, week, weekday)
	if n != want || e != wantE {
		t.Fatalf("FromWeek(%d, %d, %d) = %d, %d; want %d, %d", year, week, weekday, n, e, want, wantE)
	}
	if e == api.OK {
		if y, w, d, e := Week(n); y != year || w != week || d != weekday || e != api.OK {
			t.Fatalf("Week(%d) = %d, %d, %d, %d; want %d, %d, %d", n, y, w, d, e, year, week, weekday)
		}
	}
	return e
}

// sizes answers ints of all sizes: powers of two and of ten on both sides of 0, and what is beside them.
func sizes() []int {
	list := []int{math.MinInt, math.MinInt + 1, math.MinInt + 2, math.MaxInt, math.MaxInt - 1, math.MaxInt - 2}
	add := func(n int) {
		for more := -8; more <= 8; more++ {
			list = append(list, n+more, -n+more)
		}
	}
	for i := range 63 {
		add(1 << i)
	}
	ten := 1
	for range 18 {
		ten *= 10
		add(ten)
	}
	for _, n := range []int{0, firstYear, lastYear, math.MaxInt - 8, math.MaxInt / 7 * 7, math.MaxInt - 400, math.MaxInt / 400 * 400, math.MaxInt / 365, 1 << 40 * 365} {
		add(n)
	}
	return list
}

// drawn answers n ints of all lengths on both sides of 0; the same ones for the same seed.
func drawn(seed uint64, n int) []int {
	source := rand.New(rand.NewPCG(seed, 8))
	list := make([]int, n)
	for i := range list {
		list[i] = int(source.Uint64()) >> source.IntN(64)
	}
	return list
}

// farYears answers years so far off that their days would be near the range again if an int let them wrap.
func farYears() []int {
	word, cycle := new(big.Int).Lsh(big.NewInt(1), 64), big.NewInt(146097)
	list := []int{}
	for k := int64(-182); k <= 182; k++ {
		cycles := new(big.Int).Mul(word, big.NewInt(k))
		cycles.Div(cycles, cycle)
		for more := -800; more <= 1200; more += 100 {
			list = append(list, int(cycles.Int64())*400+more)
		}
	}
	return list
}

// yearsAll answers years of every size, of both ends of the range, and of every place in the calendar's 400 years.
func yearsAll(seed uint64) []int {
	list := append(sizes(), drawn(seed, 1000)...)
	for year := -450; year <= 450; year++ {
		list = append(list, year, year+1900)
	}
	for more := range 400 {
		list = append(list, math.MaxInt-more, math.MinInt+more)
	}
	return list
}

// P8.1: the weekdays of days that are known, and of an int's ends, worked out by another program.
func TestWeekdayTable(t *testing.T) {
	for n, want := range map[int]int{
		0: 3, 1: 4, 2: 5, 3: 6, 4: 7, 5: 1, 6: 2, 7: 3, -1: 2, -2: 1, -3: 7, -4: 6, -5: 5, -6: 4, -7: 3, -8: 2, -9: 1, -10: 7,
		51544: 6, 57754: 7, 40587: 4, 41317: 6, 15020: 1, -678941: 6, -2400001: 1, 44244: 7,
		lastDay: 5, lastDay + 1: 6, lastDay + 2: 7, lastDay + 3: 1, -lastDay: 1, -lastDay - 1: 7, -lastDay - 2: 6,
		math.MaxInt: 3, math.MaxInt - 1: 2, math.MaxInt - 2: 1, math.MaxInt - 3: 7, math.MinInt: 2, math.MinInt + 1: 3, math.MinInt + 6: 1,
	} {
		if d := Weekday(n); d != want {
			t.Errorf("Weekday(%d) = %d; want %d", n, d, want)
		}
	}
}

// P8.1: days of every size, in range or not; and one weekday behind the other.
func TestWeekdayEverywhere(t *testing.T) {
	for _, n := range append(sizes(), drawn(1, 50000)...) {
		d := Weekday(n)
		if want := wantWeekday(big.NewInt(int64(n))); d != want {
			t.Fatalf("Weekday(%d) = %d; want %d", n, d, want)
		}
		if n < math.MaxInt && Weekday(n+1) != d%7+1 {
			t.Fatalf("Weekday(%d) = %d behind %d", n+1, Weekday(n+1), d)
		}
	}
}

// P8.1, P8.2, P8.3: the chapter's example, days about New Year, years of 365 and of 366 days and of 52 and of 53 weeks, on both sides of year 0.
func TestKnownDays(t *testing.T) {
	for n, want := range map[int]place{
		57754:    {2017, 1, 2016, 52, 7},
		57753:    {2016, 366, 2016, 52, 6},
		57755:    {2017, 2, 2017, 1, 1},
		0:        {1858, 321, 1858, 46, 3},
		51543:    {1999, 365, 1999, 52, 5},
		51544:    {2000, 1, 1999, 52, 6},
		53371:    {2005, 1, 2004, 53, 6},
		54831:    {2008, 366, 2009, 1, 3},
		54832:    {2009, 1, 2009, 1, 4},
		59215:    {2021, 1, 2020, 53, 5},
		59216:    {2021, 2, 2020, 53, 6},
		60675:    {2024, 366, 2025, 1, 2},
		60676:    {2025, 1, 2025, 1, 3},
		61041:    {2026, 1, 2026, 1, 4},
		15020:    {1900, 1, 1900, 1, 1},
		40587:    {1970, 1, 1970, 1, 4},
		41317:    {1972, 1, 1971, 52, 6},
		50082:    {1995, 365, 1995, 52, 7},
		50083:    {1996, 1, 1996, 1, 1},
		-678941:  {0, 1, -1, 52, 6},
		-678942:  {-1, 365, -1, 52, 5},
		-678939:  {0, 3, 0, 1, 1},
		-679306:  {-1, 1, -2, 53, 5},
		-825038:  {-400, 1, -401, 52, 6},
		-2400001: {-4713, 328, -4713, 48, 1},
	} {
		checkPlace(t, n, want)
	}
}

// P8.2, P8.3: the range's ends, the New Year next to its beginning, and just beyond them.
func TestRangesEnds(t *testing.T) {
	for n, want := range map[int]place{
		-lastDay:      {firstYear, 338, firstYear, 49, 1},
		-lastDay + 1:  {firstYear, 339, firstYear, 49, 2},
		-lastDay + 6:  {firstYear, 344, firstYear, 49, 7},
		-lastDay + 28: {firstYear, 366, firstYear + 1, 1, 1},
		-lastDay + 29: {firstYear + 1, 1, firstYear + 1, 1, 2},
		lastDay - 6:   {lastYear, 298, lastYear, 43, 6},
		lastDay - 1:   {lastYear, 303, lastYear, 44, 4},
		lastDay:       {lastYear, 304, lastYear, 44, 5},
	} {
		checkPlace(t, n, want)
	}
	for _, n := range []int{-lastDay - 1, -lastDay - 2, -lastDay - 7, -lastDay - 366, lastDay + 1, lastDay + 2, lastDay + 7, lastDay + 366} {
		if checkDay(t, n) {
			t.Errorf("day %d is in range", n)
		}
	}
}

// P8.2: the years at both ends of the range have all their days, but only a part of them is in range.
func TestPartOfYears(t *testing.T) {
	for day := range 370 {
		want := api.OK
		if day < 338 {
			want = api.ErrOver
		}
		if day < 1 || day > 366 {
			want = api.ErrDate
		}
		if n, e := FromYearDay(firstYear, day); e != want || e == api.OK && n != -lastDay+day-338 || e != api.OK && n != 0 {
			t.Errorf("FromYearDay(%d, %d) = %d, %d", firstYear, day, n, e)
		}
		want = api.OK
		if day > 304 {
			want = api.ErrOver
		}
		if day < 1 || day > 366 {
			want = api.ErrDate
		}
		if n, e := FromYearDay(lastYear, day); e != want || e == api.OK && n != lastDay+day-304 || e != api.OK && n != 0 {
			t.Errorf("FromYearDay(%d, %d) = %d, %d", lastYear, day, n, e)
		}
	}
}

// P8.3: so are the weeks of those years.
func TestPartOfWeeks(t *testing.T) {
	errors := map[api.Errno]int{}
	for _, year := range []int{firstYear - 1, firstYear, firstYear + 1, lastYear - 1, lastYear, lastYear + 1} {
		for week := -1; week <= 55; week++ {
			for weekday := -1; weekday <= 9; weekday++ {
				errors[checkFromWeek(t, year, week, weekday)]++
			}
		}
	}
	if errors[api.OK] == 0 || errors[api.ErrDate] == 0 || errors[api.ErrOver] == 0 {
		t.Errorf("%v: want some of all", errors)
	}
	for _, over := range [][3]int{{firstYear, 48, 7}, {firstYear, 1, 1}, {lastYear, 44, 6}, {lastYear, 45, 1}, {lastYear, 52, 7}, {firstYear - 1, 52, 7}, {lastYear + 1, 1, 1}} {
		if n, e := FromWeek(over[0], over[1], over[2]); n != 0 || e != api.ErrOver {
			t.Errorf("FromWeek(%v) = %d, %d; want ErrOver", over, n, e)
		}
	}
}

// P8.1, P8.2, P8.3: what the library's calendar says.
func TestAsLibrary(t *testing.T) {
	zero := time.Date(1858, 11, 17, 0, 0, 0, 0, time.UTC)
	for n := -900000; n <= 900000; n += 5 {
		at := zero.AddDate(0, 0, n)
		want := place{year: at.Year(), day: at.YearDay(), weekday: (int(at.Weekday())+6)%7 + 1}
		want.weekYear, want.week = at.ISOWeek()
		checkPlace(t, n, want)
	}
}

// P8.1, P8.2, P8.3: day by day, through more than two times 400 years on both sides of year 0.
func TestDayByDay(t *testing.T) {
	// January 1 of -900 was a Monday, as that of 1900 is, 7 times 400 years behind it.
	p := place{year: -900, day: 1, weekYear: -900, week: 1, weekday: 1}
	n := -1007659
	for p.year < 2500 {
		checkPlace(t, n, p)
		n++
		p = next(p)
	}
	if n != 234166 {
		t.Errorf("%v is day %d", p, n)
	}
}

// next answers where the day behind p's is.
func next(p place) place {
	p.day++
	if p.day > wantLength(p.year) {
		p.year, p.day = p.year+1, 1
	}
	p.weekday++
	if p.weekday > 7 {
		p.week, p.weekday = p.week+1, 1
	}
	if p.week > wantWeeks(p.weekYear) {
		p.weekYear, p.week = p.weekYear+1, 1
	}
	return p
}

// P8.2, P8.3: the days about every New Year, through 400 years and more, at both ends of the range and about year 0.
func TestNewYears(t *testing.T) {
	ahead, behind := 0, 0
	for _, from := range []int{firstYear + 1, -410, 1700, lastYear - 410} {
		for year := from; year <= from+410; year++ {
			first := int(newYear(year).Int64())
			for n := first - 7; n <= first+7; n++ {
				p := wantPlace(n)
				if p.weekYear < p.year {
					ahead++
				}
				if p.weekYear > p.year {
					behind++
				}
				checkPlace(t, n, p)
			}
		}
	}
	if ahead == 0 || behind == 0 {
		t.Errorf("%d days are of the year ahead, %d of the next one: want some of both", ahead, behind)
	}
}

// P8.1, P8.2, P8.3: days of every size, and drawn ones of the whole range.
func TestDaysEverywhere(t *testing.T) {
	days := append(sizes(), drawn(2, 20000)...)
	source := rand.New(rand.NewPCG(3, 8))
	for range 20000 {
		days = append(days, source.IntN(2*lastDay+1)-lastDay, source.IntN(400001)-200000)
	}
	inside, outside := 0, 0
	for _, n := range days {
		if checkDay(t, n) {
			inside++
		} else {
			outside++
		}
	}
	if inside == 0 || outside == 0 {
		t.Errorf("%d days are in range, %d are not: want some of both", inside, outside)
	}
}

// P8.2: days that the year does not have are ErrDate, also where the year is out of range.
func TestNoYearDay(t *testing.T) {
	for _, c := range [][2]int{
		{2017, 0}, {2017, -1}, {2017, 366}, {2017, 367}, {2016, 0}, {2016, 367}, {1900, 366}, {2000, 367}, {0, 367}, {0, 0}, {-1, 366}, {-100, 366}, {-400, 367},
		{2017, math.MaxInt}, {2017, math.MinInt}, {2016, 1 << 32}, {2016, 1<<32 + 1}, {firstYear, 0}, {firstYear, 367}, {lastYear, 0}, {lastYear, 367}, {lastYear + 1, 366},
		{1 << 40, 0}, {1 << 40, 367}, {1<<40 + 1, 366}, {1 << 62, 0}, {-1 << 62, -1}, {math.MaxInt, 0}, {math.MaxInt, 366}, {math.MaxInt, math.MaxInt},
		{math.MinInt, 0}, {math.MinInt, 367}, {math.MinInt, math.MinInt}, {math.MinInt + 1, 366}, {math.MaxInt - 7, 366}, {math.MinInt + 8, 366},
	} {
		if n, e := FromYearDay(c[0], c[1]); n != 0 || e != api.ErrDate {
			t.Errorf("FromYearDay(%d, %d) = %d, %d; want ErrDate", c[0], c[1], n, e)
		}
	}
}

// P8.2: the first and the last day of years, and just beyond them, of years of every size; and days of every size.
func TestFromYearDayEverywhere(t *testing.T) {
	errors := map[api.Errno]int{}
	for _, year := range append(yearsAll(4), farYears()...) {
		for _, day := range []int{-1, 0, 1, 2, 31, 59, 60, 61, 180, 364, 365, 366, 367} {
			errors[checkFromYearDay(t, year, day)]++
		}
	}
	for _, day := range append(sizes(), drawn(5, 1000)...) {
		for _, year := range []int{0, 2016, 2017, -2001, firstYear, lastYear, math.MaxInt, math.MinInt} {
			checkFromYearDay(t, year, day)
		}
		checkFromYearDay(t, day, day)
	}
	if errors[api.OK] == 0 || errors[api.ErrDate] == 0 || errors[api.ErrOver] == 0 {
		t.Errorf("%v: want some of all", errors)
	}
}

// P8.2: every day of a year is one, and there is none beside them.
func TestEveryYearDay(t *testing.T) {
	for _, year := range []int{-401, -400, -100, -1, 0, 1, 4, 100, 1900, 2000, 2016, 2017, firstYear + 1, lastYear - 1, firstYear - 1, lastYear + 1, math.MaxInt, math.MinInt} {
		for day := -400; day <= 800; day++ {
			checkFromYearDay(t, year, day)
		}
	}
}

// P8.3: weeks and weekdays that there are not are ErrDate, also where the year is out of range.
func TestNoWeek(t *testing.T) {
	for _, c := range [][3]int{
		{2016, 53, 1}, {2016, 0, 1}, {2016, -1, 1}, {2016, 54, 1}, {2016, 1, 0}, {2016, 1, 8}, {2016, 1, -1}, {2016, 52, 8}, {2016, 0, 0}, {2016, 53, 8},
		{2004, 54, 1}, {2004, 53, 8}, {2004, 53, 0}, {2020, 54, 7}, {2017, 53, 7}, {0, 53, 1}, {-1, 53, 1}, {-2, 54, 1}, {-2, 0, 7},
		{2016, math.MaxInt, 1}, {2016, math.MinInt, 1}, {2016, 1, math.MaxInt}, {2016, 1, math.MinInt}, {2016, 1<<32 + 1, 1}, {2016, 1, 1<<32 + 1},
		{firstYear, 0, 1}, {firstYear, 1, 0}, {lastYear, 54, 1}, {lastYear, 52, 8}, {1 << 40, 0, 1}, {1 << 41, 1, 0}, {1 << 41, 54, 1}, {1 << 62, 1, 8}, {-1 << 62, 54, 7},
		{math.MaxInt, 54, 1}, {math.MaxInt, 0, 1}, {math.MaxInt, 1, 8}, {math.MaxInt, math.MaxInt, math.MaxInt},
		{math.MinInt, 54, 1}, {math.MinInt, 0, 1}, {math.MinInt, 1, 0}, {math.MinInt, math.MinInt, math.MinInt},
	} {
		if n, e := FromWeek(c[0], c[1], c[2]); n != 0 || e != api.ErrDate {
			t.Errorf("FromWeek(%v) = %d, %d; want ErrDate", c, n, e)
		}
	}
}

// P8.3: the years of 53 weeks from 1900 to 2100, as they are published.
func TestLongYears(t *testing.T) {
	long := map[int]int{}
	for _, year := range []int{
		1903, 1908, 1914, 1920, 1925, 1931, 1936, 1942, 1948, 1953, 1959, 1964, 1970, 1976, 1981, 1987, 1992, 1998,
		2004, 2009, 2015, 2020, 2026, 2032, 2037, 2043, 2048, 2054, 2060, 2065, 2071, 2076, 2082, 2088, 2093, 2099,
	} {
		long[year] = 1
	}
	for year := 1900; year <= 2100; year++ {
		for weekday := 1; weekday <= 7; weekday++ {
			want := api.ErrDate
			if long[year] == 1 {
				want = api.OK
			}
			if _, e := FromWeek(year, 53, weekday); e != want {
				t.Errorf("FromWeek(%d, 53, %d): %d; want %d", year, weekday, e, want)
			}
			if _, e := FromWeek(year, 52, weekday); e != api.OK {
				t.Errorf("FromWeek(%d, 52, %d): %d", year, weekday, e)
			}
			if _, e := FromWeek(year, 54, weekday); e != api.ErrDate {
				t.Errorf("FromWeek(%d, 54, %d): %d; want ErrDate", year, weekday, e)
			}
		}
	}
}

// P8.3: the first and the last weeks and weekdays, and just beyond them, of years of every size; and weeks and weekdays of every size.
func TestFromWeekEverywhere(t *testing.T) {
	errors := map[api.Errno]int{}
	for _, year := range append(yearsAll(6), farYears()...) {
		for _, week := range []int{0, 1, 2, 52, 53, 54} {
			for _, weekday := range []int{0, 1, 4, 7, 8} {
				errors[checkFromWeek(t, year, week, weekday)]++
			}
		}
	}
	for _, size := range append(sizes(), drawn(7, 1000)...) {
		for _, year := range []int{0, 2004, 2016, -2001, firstYear, lastYear, math.MaxInt, math.MinInt} {
			checkFromWeek(t, year, size, 1)
			checkFromWeek(t, year, 1, size)
			checkFromWeek(t, year, size, size)
		}
		checkFromWeek(t, size, size, size)
	}
	if errors[api.OK] == 0 || errors[api.ErrDate] == 0 || errors[api.ErrOver] == 0 {
		t.Errorf("%v: want some of all", errors)
	}
}

// P8.2, P8.3: years so great that there is no year beside them which fits in an int, with days of theirs that are out of range.
func TestGreatYears(t *testing.T) {
	for _, year := range []int{math.MinInt, math.MinInt + 1, -1 << 62, -1<<40 - 1, -1 << 40, firstYear - 1, lastYear + 1, 1 << 40, 1<<40 + 1, 1 << 62, math.MaxInt - 1, math.MaxInt} {
		for _, day := range []int{1, 2, 3, 4, 363, 364, 365} {
			if n, e := FromYearDay(year, day); n != 0 || e != api.ErrOver {
				t.Errorf("FromYearDay(%d, %d) = %d, %d; want ErrOver", year, day, n, e)
			}
		}
		for _, week := range []int{1, 2, 26, 51, 52} {
			for weekday := 1; weekday <= 7; weekday++ {
				if n, e := FromWeek(year, week, weekday); n != 0 || e != api.ErrOver {
					t.Errorf("FromWeek(%d, %d, %d) = %d, %d; want ErrOver", year, week, weekday, n, e)
				}
			}
		}
	}
}
