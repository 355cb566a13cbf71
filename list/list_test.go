package list

import (
	"crypto/sha1"
	"fmt"
	"math"
	"math/rand/v2"
	"regexp"
	"slices"
	"strconv"
	"strings"
	"testing"

	"epact/api"
)

// The numbers that the chapter names, written out.
const (
	daySeconds = 86400
	latest     = 1125899906774400 // the last day's beginning up to 2^50
	lastStamp  = 999999999999999999
	fullTable  = 64
	longest    = 65536
)

// table answers a table of entries At, Off, At, Off, ..
func table(updated, expires int, numbers ...int) api.Table {
	x := api.Table{Updated: updated, Expires: expires}
	for n := 0; n < len(numbers); n += 2 {
		x.Entries = append(x.Entries, api.Entry{At: numbers[n], Off: numbers[n+1]})
	}
	return x
}

// example answers the table of the chapter's example.
func example() api.Table {
	return table(5, 7, 2272060800, 10, 2287785600, 11)
}

// rising answers a table of so many entries.
func rising(count int) api.Table {
	x := table(1, 2)
	for n := range count {
		x.Entries = append(x.Entries, api.Entry{At: n * daySeconds, Off: n})
	}
	return x
}

// published answers the entries that have been published till now.
func published(updated, expires int) api.Table {
	x := table(updated, expires)
	for n, at := range []int{
		2272060800, 2287785600, 2303683200, 2335219200, 2366755200, 2398291200, 2429913600, 2461449600, 2492985600, 2524521600,
		2571782400, 2603318400, 2634854400, 2698012800, 2776982400, 2840140800, 2871676800, 2918937600, 2950473600, 2982009600,
		3029443200, 3076704000, 3124137600, 3345062400, 3439756800, 3550089600, 3644697600, 3692217600,
	} {
		x.Entries = append(x.Entries, api.Entry{At: at, Off: n + 10})
	}
	return x
}

// drawn answers a table that may be, of any count of entries.
func drawn(r *rand.Rand) api.Table {
	stamp := func() int { return r.IntN(lastStamp+1) / []int{1, 1e8, 1e17}[r.IntN(3)] }
	x := table(stamp(), stamp())
	at, off := r.IntN(100), r.IntN(1001)
	for range 1 + r.IntN(fullTable) {
		x.Entries = append(x.Entries, api.Entry{At: at * daySeconds, Off: off})
		at += 1 + r.IntN(1<<r.IntN(26))
		if off == 0 || off < 1000 && r.IntN(2) == 0 {
			off++
		} else {
			off--
		}
	}
	return x
}

func same(x, y api.Table) bool {
	return x.Updated == y.Updated && x.Expires == y.Expires && slices.Equal(x.Entries, y.Entries)
}

// wantStand tells, by the chapter's words, whether entry may stand behind others.
func wantStand(entry api.Entry, others []api.Entry) bool {
	fits := len(others) < fullTable && entry.At >= 0 && entry.At <= 1<<50 && entry.At%daySeconds == 0 && entry.Off >= 0 && entry.Off <= 1000
	if !fits || len(others) == 0 {
		return fits
	}
	last := others[len(others)-1]
	step := entry.Off - last.Off
	return entry.At > last.At && step*step == 1
}

// wantCheck answers what Check must.
func wantCheck(x api.Table) (int, api.Errno) {
	place := 0
	for place < len(x.Entries) && wantStand(x.Entries[place], x.Entries[:place]) {
		place++
	}
	all := place == len(x.Entries) && place > 0
	if all && x.Updated >= 0 && x.Updated <= lastStamp && x.Expires >= 0 && x.Expires <= lastStamp {
		return 0, api.OK
	}
	return place, api.ErrTable
}

// wantDigits answers the digits of x, which may be.
func wantDigits(x api.Table) string {
	s := fmt.Sprintf("%d%d", x.Updated, x.Expires)
	for _, e := range x.Entries {
		s += fmt.Sprintf("%d%d", e.At, e.Off)
	}
	return s
}

// wantPrint answers the file of x, which may be.
func wantPrint(x api.Table) string {
	s := fmt.Sprintf("#$\t%d\n#@\t%d\n", x.Updated, x.Expires)
	for _, e := range x.Entries {
		s += fmt.Sprintf("%d\t%d\n", e.At, e.Off)
	}
	h := sha1.Sum([]byte(wantDigits(x)))
	return s + fmt.Sprintf("#h\t%x\t%x\t%x\t%x\t%x\n", h[0:4], h[4:8], h[8:12], h[12:16], h[16:20])
}

// Chapter 10's lines, as patterns.
var (
	noteLine  = regexp.MustCompile(`\A([ \t]*|#|#[^$@h].*)\z`)
	stampLine = regexp.MustCompile(`\A#([$@])[ \t]+(0|[1-9][0-9]{0,17})[ \t]*\z`)
	hashLine  = regexp.MustCompile(`\A#h((?:[ \t]+[0-9a-f]{1,8}){5})[ \t]*\z`)
	dataLine  = regexp.MustCompile(`\A(0|[1-9][0-9]{0,17})[ \t]+(0|[1-9][0-9]{0,17})(?:[ \t]*|[ \t]+#.*)\z`)
)

// wantParse answers what Parse must, by patterns, the library's SHA-1, and counts of what was read.
func wantParse(text string) (api.Table, int, api.Errno) {
	if len(text) > longest {
		return api.Table{}, 0, api.ErrOver
	}
	lines := strings.Split(text, "\n")
	if lines[len(lines)-1] == "" {
		lines = lines[:len(lines)-1]
	}
	var x api.Table
	updated, expires, hash, words := 0, 0, 0, ""
	for n, s := range lines {
		fault := api.OK
		if m := stampLine.FindStringSubmatch(s); m != nil {
			count, stamp := &updated, &x.Updated
			if m[1] == "@" {
				count, stamp = &expires, &x.Expires
			}
			if *count++; *count > 1 {
				fault = api.ErrForm
			}
			*stamp, _ = strconv.Atoi(m[2])
		} else if m := hashLine.FindStringSubmatch(s); m != nil {
			if hash > 0 {
				fault = api.ErrForm
			}
			hash = n + 1
			for _, w := range strings.Fields(m[1]) {
				words += strings.Repeat("0", 8-len(w)) + w
			}
		} else if m := dataLine.FindStringSubmatch(s); m != nil {
			at, _ := strconv.Atoi(m[1])
			off, _ := strconv.Atoi(m[2])
			if !wantStand(api.Entry{At: at, Off: off}, x.Entries) {
				fault = api.ErrTable
			}
			x.Entries = append(x.Entries, api.Entry{At: at, Off: off})
		} else if !noteLine.MatchString(s) {
			fault = api.ErrForm
		}
		if fault != api.OK {
			return api.Table{}, n + 1, fault
		}
	}
	if updated == 0 || expires == 0 || hash == 0 || len(x.Entries) == 0 {
		return api.Table{}, len(lines) + 1, api.ErrForm
	}
	if fmt.Sprintf("%x", sha1.Sum([]byte(wantDigits(x)))) != words {
		return api.Table{}, hash, api.ErrHash
	}
	return x, 0, api.OK
}

// checkTable holds Check, Digits and Print of x against what they must be, and Parse of its file against x.
func checkTable(t *testing.T, x api.Table) api.Errno {
	t.Helper()
	place, e := wantCheck(x)
	if gotPlace, gotE := Check(x); gotPlace != place || gotE != e {
		t.Errorf("Check(%v) = %d, %d; want %d, %d", x, gotPlace, gotE, place, e)
	}
	digits, file := "", ""
	if e == api.OK {
		digits, file = wantDigits(x), wantPrint(x)
		if y, n, e := Parse(file); !same(y, x) || n != 0 || e != api.OK {
			t.Errorf("the file of %v is read as %v, %d, %d", x, y, n, e)
		}
	}
	if got := Digits(x); got != digits {
		t.Errorf("Digits(%v) = %.200q; want %.200q", x, got, digits)
	}
	if got := Print(x); got != file {
		t.Errorf("Print(%v) = %.200q; want %.200q", x, got, file)
	}
	return e
}

// checkParse holds Parse of text against what it must be.
func checkParse(t *testing.T, text string) api.Errno {
	t.Helper()
	x, n, e := wantParse(text)
	if gotX, gotN, gotE := Parse(text); !same(gotX, x) || gotN != n || gotE != e {
		t.Errorf("Parse(%.300q) = %v, %d, %d; want %v, %d, %d", text, gotX, gotN, gotE, x, n, e)
	}
	return e
}

// checkFault tells that Parse answers of text that error at that line.
func checkFault(t *testing.T, text string, line int, want api.Errno) {
	t.Helper()
	if x, n, e := Parse(text); !same(x, api.Table{}) || n != line || e != want {
		t.Errorf("Parse(%.300q) = %v, %d, %d; want line %d, %d", text, x, n, e, line, want)
	}
	checkParse(t, text)
}

// checkRead tells that Parse reads text as x.
func checkRead(t *testing.T, text string, x api.Table) {
	t.Helper()
	if y, n, e := Parse(text); !same(y, x) || n != 0 || e != api.OK {
		t.Errorf("Parse(%.300q) = %v, %d, %d; want %v", text, y, n, e, x)
	}
	checkParse(t, text)
}

// P11.1: tables that may be, at the edges of what the chapter names.
func TestCheckMayBe(t *testing.T) {
	for _, x := range []api.Table{
		example(), published(0, 0), rising(1), rising(2), rising(fullTable - 1), rising(fullTable),
		table(0, 0, 0, 0), table(lastStamp, lastStamp, 0, 0), table(0, lastStamp, 0, 1000), table(lastStamp, 0, 0, 1), table(9, 8, 0, 999),
		table(1, 2, daySeconds, 5), table(1, 2, latest, 1000), table(1, 2, latest-daySeconds, 0, latest, 1), table(1, 2, 0, 999, latest, 1000),
		table(1, 2, 0, 1, daySeconds, 0), table(1, 2, 0, 1000, daySeconds, 999), table(1, 2, 0, 0, daySeconds, 1, 2*daySeconds, 0, 3*daySeconds, 1),
	} {
		if n, e := Check(x); n != 0 || e != api.OK {
			t.Errorf("Check(%v) = %d, %d; want OK", x, n, e)
		}
		checkTable(t, x)
	}
}

// P11.1: tables that may not be, and the place.
func TestCheckMayNotBe(t *testing.T) {
	for _, c := range []struct {
		x     api.Table
		place int
	}{
		// No entry, with stamps that may be and that may not.
		{api.Table{}, 0}, {table(1, 2), 0}, {table(-1, -1), 0}, {api.Table{Entries: []api.Entry{}}, 0},
		// One more than there may be, and many more.
		{rising(fullTable + 1), fullTable}, {rising(fullTable + 2), fullTable}, {rising(1001), fullTable},
		// At.
		{table(1, 2, -1, 5), 0}, {table(1, 2, -daySeconds, 5), 0}, {table(1, 2, latest+daySeconds, 5), 0}, {table(1, 2, 1<<50, 5), 0}, {table(1, 2, 1<<50+1, 5), 0},
		{table(1, 2, 1, 5), 0}, {table(1, 2, daySeconds-1, 5), 0}, {table(1, 2, daySeconds+1, 5), 0}, {table(1, 2, latest+1, 5), 0}, {table(1, 2, latest-1, 5), 0},
		{table(1, 2, math.MaxInt, 5), 0}, {table(1, 2, math.MinInt, 5), 0}, {table(1, 2, math.MinInt/daySeconds*daySeconds, 5), 0}, {table(1, 2, math.MaxInt/daySeconds*daySeconds, 5), 0},
		{table(1, 2, 0, 5, latest+daySeconds, 6), 1}, {table(1, 2, 0, 5, daySeconds+1, 6), 1}, {table(1, 2, 0, 5, math.MaxInt, 6), 1},
		// Off.
		{table(1, 2, 0, -1), 0}, {table(1, 2, 0, 1001), 0}, {table(1, 2, 0, math.MinInt), 0}, {table(1, 2, 0, math.MaxInt), 0},
		{table(1, 2, 0, 0, daySeconds, -1), 1}, {table(1, 2, 0, 1000, daySeconds, 1001), 1}, {table(1, 2, 0, 1, daySeconds, math.MinInt), 1}, {table(1, 2, 0, 1, daySeconds, math.MaxInt), 1},
		// At not greater.
		{table(1, 2, 0, 5, 0, 6), 1}, {table(1, 2, daySeconds, 5, 0, 6), 1}, {table(1, 2, latest, 5, latest, 4), 1}, {table(1, 2, 0, 5, daySeconds, 6, daySeconds, 7), 2},
		// Off the same, two more, two less, far off.
		{table(1, 2, 0, 5, daySeconds, 5), 1}, {table(1, 2, 0, 5, daySeconds, 7), 1}, {table(1, 2, 0, 5, daySeconds, 3), 1}, {table(1, 2, 0, 0, daySeconds, 1000), 1},
		{table(1, 2, 0, 5, daySeconds, 6, 2*daySeconds, 6), 2}, {table(1, 2, 0, 5, daySeconds, 6, 2*daySeconds, 8), 2}, {table(1, 2, 0, 5, daySeconds, 6, 2*daySeconds, 4), 2},
		// Updated and Expires: behind all entries.
		{table(-1, 2, 0, 5), 1}, {table(1, -1, 0, 5), 1}, {table(lastStamp+1, 2, 0, 5), 1}, {table(1, lastStamp+1, 0, 5), 1},
		{table(math.MinInt, 2, 0, 5, daySeconds, 6), 2}, {table(1, math.MaxInt, 0, 5, daySeconds, 6), 2}, {table(math.MaxInt, math.MinInt, 0, 5, daySeconds, 6, 2*daySeconds, 5), 3},
		// The first one of several, entries ahead of stamps.
		{table(1, 2, 0, -1, 1, 5), 0}, {table(1, 2, 0, 5, 1, 5, 2, 5), 1}, {table(-1, 2, 0, 5, 1, 5), 1}, {table(1, -1, 7, 5), 0},
	} {
		if n, e := Check(c.x); n != c.place || e != api.ErrTable {
			t.Errorf("Check(%v) = %d, %d; want %d, ErrTable", c.x, n, e, c.place)
		}
		if d, p := Digits(c.x), Print(c.x); d != "" || p != "" {
			t.Errorf("%v may not be: Digits %.200q, Print %.200q", c.x, d, p)
		}
		checkTable(t, c.x)
	}
	full := rising(fullTable)
	full.Updated = -1
	if n, e := Check(full); n != fullTable || e != api.ErrTable {
		t.Errorf("%d entries, Updated -1: %d, %d", fullTable, n, e)
	}
}

// P11.1, P11.2, P11.3, R1: every table of up to two entries whose numbers are at the edges.
func TestEveryEdge(t *testing.T) {
	ats := []int{math.MinInt, -daySeconds, -1, 0, 1, daySeconds - 1, daySeconds, daySeconds + 1, 2 * daySeconds, latest - daySeconds, latest, 1 << 50, 1<<50 + 1, latest + daySeconds, math.MaxInt}
	offs := []int{math.MinInt, -2, -1, 0, 1, 2, 3, 998, 999, 1000, 1001, math.MaxInt}
	stamps := []int{math.MinInt, -1, 0, 1, lastStamp, lastStamp + 1, math.MaxInt}
	errors := map[api.Errno]int{}
	var entries []api.Entry
	for _, at := range ats {
		for _, off := range offs {
			entries = append(entries, api.Entry{At: at, Off: off})
		}
	}
	for _, a := range entries {
		for _, updated := range stamps {
			for _, expires := range stamps {
				errors[checkTable(t, table(updated, expires, a.At, a.Off))]++
			}
		}
		for _, b := range entries {
			errors[checkTable(t, table(5, 7, a.At, a.Off, b.At, b.Off))]++
		}
	}
	if errors[api.OK] == 0 || errors[api.ErrTable] == 0 {
		t.Errorf("%v: want some of both", errors)
	}
}

// P11.1: tables that may be, with one of their numbers made another one.
func TestOneNumberTurned(t *testing.T) {
	r := rand.New(rand.NewPCG(11, 1))
	more := []int{1, -1, 2, -2, daySeconds, -daySeconds, 1 << 50, -1 << 50, lastStamp, -lastStamp}
	errors := map[api.Errno]int{}
	for range 3000 {
		x := drawn(r)
		n, by := r.IntN(len(x.Entries)), more[r.IntN(len(more))]
		switch r.IntN(5) {
		case 0:
			x.Entries[n].At += by
		case 1:
			x.Entries[n].Off += by
		case 2:
			x.Updated += by
		case 3:
			x.Expires += by
		case 4:
			x.Entries = append(x.Entries, x.Entries[:n]...)
		}
		errors[checkTable(t, x)]++
	}
	if errors[api.OK] == 0 || errors[api.ErrTable] == 0 {
		t.Errorf("%v: want some of both", errors)
	}
}

// P11.2: the chapter's example, and the order of the digits.
func TestDigits(t *testing.T) {
	for _, c := range []struct {
		x    api.Table
		want string
	}{
		{example(), "57227206080010228778560011"},
		{table(0, 0, 0, 0), "0000"},
		{table(12, 34, 0, 56), "1234056"},
		{table(34, 12, 86400, 1, 172800, 0), "3412864001" + "1728000"},
		{table(lastStamp, 1, latest, 1000), "999999999999999999" + "1" + "1125899906774400" + "1000"},
		{table(-1, 1, 0, 1), ""},
		{table(1, lastStamp+1, 0, 1), ""},
		{table(1, 1), ""},
		{table(1, 1, 1, 1), ""},
		{rising(fullTable + 1), ""},
	} {
		if got := Digits(c.x); got != c.want {
			t.Errorf("Digits(%v) = %q; want %q", c.x, got, c.want)
		}
	}
}

// P11.3: a file, written out, its sum that of another program; and of words that begin with 0 all eight digits.
func TestPrint(t *testing.T) {
	const want = "#$\t5\n#@\t7\n2272060800\t10\n2287785600\t11\n#h\t1a603017\t8d54c95e\t85d2d3c5\tbb5adc0c\td21b9ff9\n"
	if got := Print(example()); got != want {
		t.Errorf("Print: %q, want %q", got, want)
	}
	short := [5]int{}
	for n := range 2000 {
		x := table(n, 7, 2272060800, 10)
		checkTable(t, x)
		lines := strings.Split(Print(x), "\n")
		for place, w := range strings.Split(lines[3], "\t")[1:] {
			if len(w) != 8 {
				t.Fatalf("Updated %d: word %q", n, w)
			}
			if w[0] == '0' {
				short[place]++
			}
		}
	}
	if slices.Contains(short[:], 0) {
		t.Errorf("words that begin with 0: %v, want some at each place", short)
	}
}

// P11.2, P11.3, P11.4, P5: the published entries, with other remarks: the second sum is as its file has it; the first one was worked out by another program, and has a word without its 0 ahead.
func TestPublished(t *testing.T) {
	for _, c := range []struct {
		updated, expires int
		sum              string
	}{
		{3676924800, 3739132800, "5101445a 69948b51 9153e2b 2086e3d8 d54561a3"},
		{3960835200, 3991593600, "49db2447 571e5e1b 2f002a53 9c8da8e4 39b8e49e"},
	} {
		x := published(c.updated, c.expires)
		checkTable(t, x)
		text := fmt.Sprintf("#\tIn the following text, the symbol '#' introduces\n#\n\n#$\t%d\n#\n#@\t%d\n#\n#NTP Time      DTAI    Day Month Year\n", c.updated, c.expires)
		for _, e := range x.Entries {
			text += fmt.Sprintf("%-15d %-7d # a day\n", e.At, e.Off)
		}
		checkRead(t, text+"#\n#h\t"+c.sum+"\n", x)
		checkRead(t, text+"#\n#h\t"+c.sum, x)
		checkFault(t, text+"#\n#h\t"+c.sum[:len(c.sum)-1]+"0\n", 38, api.ErrHash)
	}
}

// P11.4: the chapter's example, and texts without anything that counts.
func TestParseNothing(t *testing.T) {
	checkFault(t, "", 1, api.ErrForm)
	checkFault(t, "\n", 2, api.ErrForm)
	checkFault(t, "\n\n\n", 4, api.ErrForm)
	checkFault(t, "#", 2, api.ErrForm)
	checkFault(t, "# a\n\t\n#b\n ", 5, api.ErrForm)
	checkFault(t, "x", 1, api.ErrForm)
	checkFault(t, "\n\nx", 3, api.ErrForm)
	checkFault(t, "\x00", 1, api.ErrForm)
	checkFault(t, "\xff\xfe\n", 1, api.ErrForm)
}

// P11.4: a text of MaxTable bytes, and of one more: whatever else is wrong, that is told first.
func TestParseLong(t *testing.T) {
	x := example()
	file := wantPrint(x)
	room := longest - len(file)
	for _, more := range []string{strings.Repeat("\n", room), "#" + strings.Repeat("a", room-2) + "\n", strings.Repeat(" ", room-1) + "\n"} {
		for _, text := range []string{more + file, file + more} {
			if len(text) != longest {
				t.Fatalf("%d bytes", len(text))
			}
			checkRead(t, text, x)
			checkRead(t, text[:longest-1], x)
			for _, over := range []string{text + "\n", text + "x", "\n" + text, "x" + text, text + text} {
				checkFault(t, over, 0, api.ErrOver)
			}
		}
	}
	checkFault(t, strings.Repeat("\n", longest), longest+1, api.ErrForm)
	checkFault(t, strings.Repeat("\n", longest+1), 0, api.ErrOver)
	checkFault(t, strings.Repeat("x", longest), 1, api.ErrForm)
	checkFault(t, strings.Repeat("x", longest+1), 0, api.ErrOver)
	checkFault(t, strings.Repeat("\n", longest-1)+"x", longest, api.ErrForm)
	checkFault(t, strings.Repeat("x\n", 1<<20), 0, api.ErrOver)
}

// P11.4: a second line of a kind, wherever it is, the same or another one; a second note is none, nor are more entries.
func TestParseTwice(t *testing.T) {
	lines := strings.SplitAfter(wantPrint(example()), "\n")[:5]
	for _, twice := range []string{lines[0], lines[1], lines[4], "#$ 6\n", "#@ 0\n", "#h 1 2 3 4 5\n"} {
		first := slices.IndexFunc(lines, func(s string) bool { return s[:2] == twice[:2] })
		for place := range len(lines) + 1 {
			text := strings.Join(slices.Insert(slices.Clone(lines), place, twice), "")
			// The later one of the two is told.
			checkFault(t, text, max(place, first+1)+1, api.ErrForm)
		}
	}
	for place := range len(lines) + 1 {
		for _, note := range []string{"\n", "#\n", "# $ 5\n", " \t\n", "##$ 5\n"} {
			checkRead(t, strings.Join(slices.Insert(slices.Clone(lines), place, note, note), ""), example())
		}
	}
}

// P11.4: lines that lack: every choice of the lines; the number of lines and 1.
func TestParseLacks(t *testing.T) {
	lines := strings.SplitAfter(wantPrint(table(5, 7, 2272060800, 10)), "\n")[:4]
	for choice := range 1<<4 - 1 {
		text, count := "", 0
		for n, s := range lines {
			if choice>>n&1 == 1 {
				text += s
				count++
			}
		}
		checkFault(t, text, count+1, api.ErrForm)
		checkFault(t, strings.TrimSuffix(text, "\n"), count+1, api.ErrForm)
		checkFault(t, text+"\n#\n", count+3, api.ErrForm)
		checkFault(t, "#\n"+text+"\n", count+3, api.ErrForm)
	}
	// What lacks is told ahead of a sum that is not the table's.
	checkFault(t, "#$ 5\n#@ 7\n#h 0 0 0 0 0\n", 4, api.ErrForm)
	checkFault(t, "#$ 5\n0 0\n#h 0 0 0 0 0\n", 4, api.ErrForm)
	checkFault(t, "#@ 5\n0 0\n#h 0 0 0 0 0\n", 4, api.ErrForm)
	// Stamps of 0 and words of 0 are there.
	checkFault(t, "#$ 0\n#@ 0\n0 0\n", 4, api.ErrForm)
	checkFault(t, "#$ 0\n#@ 0\n0 0\n#h 0 0 0 0 0\n", 4, api.ErrHash)
	checkRead(t, wantPrint(table(0, 0, 0, 0)), table(0, 0, 0, 0))
}

// P11.4: entries that may not stand behind those ahead of them, told by their lines, whatever comes behind.
func TestParseEntries(t *testing.T) {
	const head = "#$ 5\n#@ 7\n"
	for _, c := range []struct {
		data string
		line int
	}{
		{"1 5", 3}, {"86399 5", 3}, {"86401 5", 3}, {"1125899906842624 5", 3}, {"1125899906860800 5", 3}, {"999999999999999999 5", 3}, {"999999999999993600 5", 3},
		{"0 1001", 3}, {"0 999999999999999999", 3}, {"0 1000\n86400 1001", 4},
		{"0 5\n0 6", 4}, {"86400 5\n0 6", 4}, {"0 5\n86400 5", 4}, {"0 5\n86400 7", 4}, {"0 5\n86400 3", 4}, {"0 5\n\n# x\n86400 6\n\n86400 5", 8},
		{"0 0\n86400 1\n172800 1", 5}, {"0 5\n1 5\n2 5", 4}, {"1 5\n1 5", 3},
	} {
		for _, behind := range []string{"", "\n", "\nx\n", "\n#$ 5\n", "\n#h 1 2 3 4 5\n", "\n#h\n"} {
			checkFault(t, head+c.data+behind, c.line, api.ErrTable)
		}
		checkFault(t, c.data, c.line-2, api.ErrTable)
		checkFault(t, "\nx\n"+c.data, 2, api.ErrForm)
	}
	full := wantPrint(rising(fullTable))
	checkRead(t, full, rising(fullTable))
	checkFault(t, full+"5529600 64\n", fullTable+4, api.ErrTable)
	checkFault(t, full+"\n5529600\t63\t# x", fullTable+5, api.ErrTable)
	checkFault(t, full+"5529600 064\n", fullTable+4, api.ErrForm)
	// Of any order, entries may stand about the other lines.
	lines := strings.SplitAfter(wantPrint(example()), "\n")[:5]
	checkRead(t, lines[4]+lines[2]+lines[1]+lines[0]+lines[3], example())
	checkRead(t, lines[2]+lines[3]+lines[4]+lines[1]+lines[0], example())
	checkFault(t, lines[0]+lines[1]+lines[3]+lines[2]+lines[4], 4, api.ErrTable)
}

// P11.4: a sum that is not the table's: each digit of it turned, words in another order, another table's; told by the Hash line, wherever it is.
func TestParseHash(t *testing.T) {
	x := example()
	lines := strings.SplitAfter(wantPrint(x), "\n")[:5]
	head, hash := strings.Join(lines[:4], ""), lines[4]
	for place := 3; place < len(hash)-1; place++ {
		if hash[place] == '\t' {
			continue
		}
		digit := byte('0')
		if hash[place] == '0' {
			digit = 'f'
		}
		turned := hash[:place] + string(digit) + hash[place+1:]
		checkFault(t, head+turned, 5, api.ErrHash)
		checkFault(t, turned+head, 1, api.ErrHash)
		checkFault(t, lines[0]+"\n#\n"+turned+strings.Join(lines[1:4], "")+"\n", 4, api.ErrHash)
	}
	words := strings.Fields(hash)
	for place := 1; place < 5; place++ {
		other := slices.Clone(words)
		other[place], other[place+1] = other[place+1], other[place]
		checkFault(t, head+strings.Join(other, " "), 5, api.ErrHash)
	}
	checkFault(t, strings.Replace(head, "\t5\n", "\t6\n", 1)+hash, 5, api.ErrHash)
	checkFault(t, strings.Replace(head, "\t7\n", "\t8\n", 1)+hash, 5, api.ErrHash)
	checkFault(t, strings.Replace(head, "2287785600", "2287872000", 1)+hash, 5, api.ErrHash)
	checkFault(t, lines[0]+lines[1]+lines[2]+hash, 4, api.ErrHash)
	// Digits that are the same ones in all have the same sum, wherever one number ends.
	checkRead(t, "#$ 57\n#@ 227206080010\n"+"0 1\n"+strings.Split(wantPrint(table(57, 227206080010, 0, 1)), "\n")[3], table(57, 227206080010, 0, 1))
	checkRead(t, "#$ 572\n#@ 27206080010\n"+"0 1\n"+strings.Split(wantPrint(table(57, 227206080010, 0, 1)), "\n")[3], table(572, 27206080010, 0, 1))
	// Words without their 0 ahead are the same ones.
	for n := range 200 {
		x := table(n+1, 7, 2272060800, 10)
		checkRead(t, strings.ReplaceAll(wantPrint(x), "\t0", "\t"), x)
	}
}

// P11.4: lines that say nothing, at each place of a file; the first line with an error counts, of whichever kind.
func TestParseForm(t *testing.T) {
	lines := strings.SplitAfter(wantPrint(example()), "\n")[:5]
	for _, bad := range []string{"x\n", "#hello\n", "#$\n", "#$ -1\n", "#@ 05\n", "#$ 1000000000000000000\n", "#h 1 2 3 4\n", "0 -1\n", "0\n", "0 1 2\n", " 0 1\n", "0 1#\n", "\r\n", "\x80\n"} {
		for place := range len(lines) + 1 {
			checkFault(t, strings.Join(slices.Insert(slices.Clone(lines), place, bad), ""), place+1, api.ErrForm)
			checkFault(t, strings.Join(slices.Insert(slices.Clone(lines), place, bad, "1 1\n", bad, lines[0]), ""), place+1, api.ErrForm)
		}
	}
	checkFault(t, "#$ 5\n#$ 5\n1 1\n", 2, api.ErrForm)
	checkFault(t, "#$ 5\n1 1\n#$ 5\n", 2, api.ErrTable)
	checkFault(t, strings.ReplaceAll(wantPrint(example()), "\n", "\r\n"), 1, api.ErrForm)
}

// P11.4, R1: a file with one byte, whichever, more, less, or another one.
func TestParseOneByteTurned(t *testing.T) {
	errors := map[api.Errno]int{}
	file := wantPrint(table(0, 10, 0, 1, daySeconds, 2))
	for place := range len(file) + 1 {
		for v := range 256 {
			c := string([]byte{byte(v)})
			errors[checkParse(t, file[:place]+c+file[place:])]++
			if place < len(file) {
				errors[checkParse(t, file[:place]+c+file[place+1:])]++
			}
		}
		errors[checkParse(t, file[:place])]++
		errors[checkParse(t, file[place:])]++
		if place < len(file) {
			errors[checkParse(t, file[:place]+file[place+1:])]++
		}
	}
	for _, e := range []api.Errno{api.OK, api.ErrForm, api.ErrTable, api.ErrHash} {
		if errors[e] == 0 {
			t.Errorf("no text with error %d: %v", e, errors)
		}
	}
}

// P11.4: texts put together of lines, in any order.
func TestParseChance(t *testing.T) {
	r := rand.New(rand.NewPCG(11, 2))
	pieces := []string{"#$ 5", "#@ 7", "#$\t5 ", "#@ 7", "0 1", "86400\t2", "86400 0 # x", "172800 1", "0 1", "1 1", "", "#", "x"}
	for _, x := range []api.Table{table(5, 7, 0, 1), table(5, 7, 0, 1, daySeconds, 2), table(5, 7, 0, 1, daySeconds, 0), table(5, 7, daySeconds, 0, 2*daySeconds, 1)} {
		lines := strings.Split(wantPrint(x), "\n")
		pieces = append(pieces, lines[len(lines)-2], lines[len(lines)-2])
	}
	errors := map[api.Errno]int{}
	for range 200000 {
		var lines []string
		for range r.IntN(8) {
			lines = append(lines, pieces[r.IntN(len(pieces))])
		}
		errors[checkParse(t, strings.Join(lines, "\n"))]++
	}
	for _, e := range []api.Errno{api.OK, api.ErrForm, api.ErrTable, api.ErrHash} {
		if errors[e] == 0 {
			t.Errorf("no text with error %d: %v", e, errors)
		}
	}
	for range 20000 {
		b := make([]byte, r.IntN(100))
		for i := range b {
			b[i] = "#$@h0123456789af \t\n\nx\xff"[r.IntN(22)]
		}
		checkParse(t, string(b))
	}
}

// P5: the file that is written of a table is read as it, of every table that may be.
func TestReadAsWritten(t *testing.T) {
	r := rand.New(rand.NewPCG(11, 3))
	for range 2000 {
		x := drawn(r)
		if e := checkTable(t, x); e != api.OK {
			t.Fatalf("%v may not be: %d", x, e)
		}
		checkRead(t, Print(x), x)
	}
	for n := 1; n <= fullTable; n++ {
		checkRead(t, Print(rising(n)), rising(n))
	}
}

// R4: what is handed in stays as it is, spare room included; two answers share no memory.
func TestStays(t *testing.T) {
	for _, count := range []int{0, 1, 2, fullTable, fullTable + 3} {
		room := rising(fullTable + 10).Entries
		before := slices.Clone(room)
		x := api.Table{Updated: 1, Expires: 2, Entries: room[:count]}
		Check(x)
		Digits(x)
		Print(x)
		if !slices.Equal(room, before) {
			t.Errorf("%d entries: what was handed in is changed, or what is behind it", count)
		}
	}
	file := wantPrint(example())
	x, _, _ := Parse(file)
	y, _, _ := Parse(file)
	x.Entries[0].Off = 99
	x.Entries = append(x.Entries, api.Entry{At: 1, Off: 1})
	if z, _, _ := Parse(file); !same(y, example()) || !same(z, example()) {
		t.Errorf("an answer that is changed changes another one: %v, %v", y, z)
	}
}

// R5: the same asked again, others between, has the same answers.
func TestAgain(t *testing.T) {
	file := wantPrint(example())
	texts := []string{file, "", "x", file + file, wantPrint(rising(fullTable)), "#$ 9\n", "#h 1 2 3 4 5\n0 1\n", strings.Replace(file, "\t7", "\t8", 1), strings.Repeat("\n", longest+1)}
	for range 3 {
		for n := range texts {
			checkParse(t, texts[n])
			checkParse(t, texts[len(texts)-1-n])
			checkTable(t, example())
			checkTable(t, rising(fullTable+1))
		}
	}
}
