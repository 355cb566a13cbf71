package lex

import (
	"math/rand/v2"
	"regexp"
	"slices"
	"strconv"
	"strings"
	"testing"
	"unsafe"
)

// The chapter's cases, written once more as patterns.
var (
	blankLine  = regexp.MustCompile(`\A[ \t]*\z`)
	stampLine  = regexp.MustCompile(`\A#([$@])[ \t]+(0|[1-9][0-9]{0,17})[ \t]*\z`)
	hashLine   = regexp.MustCompile(`\A#h[ \t]+([0-9a-f]{1,8})[ \t]+([0-9a-f]{1,8})[ \t]+([0-9a-f]{1,8})[ \t]+([0-9a-f]{1,8})[ \t]+([0-9a-f]{1,8})[ \t]*\z`)
	remarkLine = regexp.MustCompile(`(?s)\A#(\z|[^$@h])`)
	dataLine   = regexp.MustCompile(`(?s)\A(0|[1-9][0-9]{0,17})[ \t]+(0|[1-9][0-9]{0,17})([ \t]*|[ \t]+#.*)\z`)
)

func numberOf(t *testing.T, s string) int {
	t.Helper()
	n, err := strconv.Atoi(s)
	if err != nil {
		t.Fatal(err)
	}
	return n
}

// wanted answers what the patterns say of s.
func wanted(t *testing.T, s string) (Line, bool) {
	t.Helper()
	if blankLine.MatchString(s) {
		return Line{Kind: Note}, true
	}
	if m := stampLine.FindStringSubmatch(s); m != nil {
		kind := map[string]int{"$": Updated, "@": Expires}[m[1]]
		return Line{Kind: kind, A: numberOf(t, m[2])}, true
	}
	if m := hashLine.FindStringSubmatch(s); m != nil {
		l := Line{Kind: Hash}
		for n := range l.Words {
			w, err := strconv.ParseUint(m[n+1], 16, 32)
			if err != nil {
				t.Fatal(err)
			}
			l.Words[n] = uint32(w)
		}
		return l, true
	}
	if remarkLine.MatchString(s) {
		return Line{Kind: Note}, true
	}
	if m := dataLine.FindStringSubmatch(s); m != nil {
		return Line{Kind: Data, A: numberOf(t, m[1]), B: numberOf(t, m[2])}, true
	}
	return Line{}, false
}

// checkScan holds Scan of s against the patterns.
func checkScan(t *testing.T, s string) {
	t.Helper()
	want, wantOK := wanted(t, s)
	if got, ok := Scan(s); got != want || ok != wantOK {
		t.Errorf("%q: %v %v, want %v %v", s, got, ok, want, wantOK)
	}
}

// checkLines holds Lines of text against want.
func checkLines(t *testing.T, text string, want ...string) {
	t.Helper()
	if got := Lines(text); !slices.Equal(got, want) {
		t.Errorf("%q: %q, want %q", text, got, want)
	}
}

// texts answers every text of up to most bytes, all of them of signs.
func texts(signs string, most int) []string {
	list := []string{""}
	from := 0
	for range most {
		to := len(list)
		for _, s := range list[from:to] {
			for i := range len(signs) {
				list = append(list, s+signs[i:i+1])
			}
		}
		from = to
	}
	return list
}

// The kinds' numbers are the chapter's, and are untyped, so that they go with any kind of whole numbers.
func TestKinds(t *testing.T) {
	got := [5]uint8{Note, Updated, Expires, Hash, Data}
	if got != [5]uint8{1, 2, 3, 4, 5} {
		t.Errorf("kinds %v", got)
	}
}

// P10.1: the edges: no text, the last line with a byte 10 and without, empty lines anywhere.
func TestLines(t *testing.T) {
	checkLines(t, "")
	checkLines(t, "\n", "")
	checkLines(t, "\n\n", "", "")
	checkLines(t, "a", "a")
	checkLines(t, "a\n", "a")
	checkLines(t, "a\n\n", "a", "")
	checkLines(t, "\na", "", "a")
	checkLines(t, "\na\n", "", "a")
	checkLines(t, "a\nb", "a", "b")
	checkLines(t, "a\nb\n", "a", "b")
	checkLines(t, "a\n\nb", "a", "", "b")
	checkLines(t, "\n\n\n", "", "", "")
	checkLines(t, " \n\t", " ", "\t")
	checkLines(t, "#$\t1\n#@\t2\n1 2 # x\n", "#$\t1", "#@\t2", "1 2 # x")
}

// P10.1: nothing but a byte 10 ends a line, and no byte of a line is lost.
func TestLinesOfAnyBytes(t *testing.T) {
	checkLines(t, "a\r\nb\r", "a\r", "b\r")
	checkLines(t, "a\vb\fc\x00d\u0085e\u2028f\xff", "a\vb\fc\x00d\u0085e\u2028f\xff")
	for v := range 256 {
		s := string([]byte{byte(v)})
		if s == "\n" {
			checkLines(t, "a"+s+"b", "a", "b")
			continue
		}
		checkLines(t, "a"+s+"b", "a"+s+"b")
		checkLines(t, s, s)
		checkLines(t, s+"\n"+s, s, s)
	}
}

// P10.1: every short text: its lines, each with a byte 10 behind it, are the text again, which has one at its end, or gets it.
func TestEveryShortText(t *testing.T) {
	for _, text := range texts("\n\r a", 6) {
		again := ""
		for _, line := range Lines(text) {
			if strings.Contains(line, "\n") {
				t.Fatalf("%q: a line %q", text, line)
			}
			again += line + "\n"
		}
		want := text
		if text != "" && !strings.HasSuffix(text, "\n") {
			want += "\n"
		}
		if again != want {
			t.Fatalf("%q: %q", text, Lines(text))
		}
	}
}

// P10.1: long lines, and many of them.
func TestLongTexts(t *testing.T) {
	long := strings.Repeat("x", 1<<20)
	checkLines(t, long, long)
	checkLines(t, long+"\n"+long+"\n", long, long)
	if got := Lines(strings.Repeat("\n", 1<<20)); len(got) != 1<<20 {
		t.Errorf("%d lines, want %d", len(got), 1<<20)
	}
	if got := Lines(strings.Repeat("ab\n", 1<<18) + "c"); len(got) != 1<<18+1 || got[1<<18] != "c" || got[1<<18-1] != "ab" {
		t.Errorf("%d lines, want %d", len(got), 1<<18+1)
	}
}

// R4: lines are new memory: none of the text's, and none of another answer's.
func TestLinesAreNew(t *testing.T) {
	text := "#$ 1\n\n# remark\nlast"
	first, second := Lines(text), Lines(text)
	from := uintptr(unsafe.Pointer(unsafe.StringData(text)))
	for n, line := range first {
		if line == "" {
			continue
		}
		at := uintptr(unsafe.Pointer(unsafe.StringData(line)))
		if at >= from && at < from+uintptr(len(text)) {
			t.Errorf("line %d is a piece of the text", n)
		}
		if unsafe.StringData(line) == unsafe.StringData(second[n]) {
			t.Errorf("line %d is shared by two answers", n)
		}
	}
	first[0] = "turned"
	_ = append(first[:1], "turned", "turned")
	want := []string{"#$ 1", "", "# remark", "last"}
	if !slices.Equal(second, want) {
		t.Errorf("an answer hangs on another: %q", second)
	}
	checkLines(t, text, want...)
}

// P10.2: lines that say something.
func TestScan(t *testing.T) {
	for s, want := range map[string]Line{
		// The chapter's examples.
		"#$\t3676924800":               {Kind: Updated, A: 3676924800},
		"2272060800\t10\t# 1 Jan 1972": {Kind: Data, A: 2272060800, B: 10},
		"# hello":                      {Kind: Note},
		// Blanks alone, of both kinds.
		"": {Kind: Note}, " ": {Kind: Note}, "\t": {Kind: Note}, " \t \t": {Kind: Note},
		// #, and what is no kind of its own.
		"#": {Kind: Note}, "# ": {Kind: Note}, "##": {Kind: Note}, "# $ 5": {Kind: Note}, "#\t@ 5": {Kind: Note}, "##h": {Kind: Note},
		"#H": {Kind: Note}, "#5": {Kind: Note}, "#\x00": {Kind: Note}, "#\xff": {Kind: Note}, "#\n": {Kind: Note}, "# x\n1 2": {Kind: Note}, "#\r": {Kind: Note},
		// Numbers of 1 and of 18 digits, a 0 alone; blanks ahead and behind.
		"#$ 0": {Kind: Updated}, "#$ 7": {Kind: Updated, A: 7}, "#$ \t 7\t ": {Kind: Updated, A: 7},
		"#$ 999999999999999999": {Kind: Updated, A: 999999999999999999}, "#$\t100000000000000000": {Kind: Updated, A: 100000000000000000},
		"#@ 0": {Kind: Expires}, "#@ 9": {Kind: Expires, A: 9}, "#@\t \t9 \t": {Kind: Expires, A: 9},
		"#@\t999999999999999999": {Kind: Expires, A: 999999999999999999}, "#@ 123456789012345678": {Kind: Expires, A: 123456789012345678},
		// Words of 1 and of 8 signs, with a 0 ahead of others.
		"#h 0 1 2 3 4":                                    {Kind: Hash, Words: [5]uint32{0, 1, 2, 3, 4}},
		"#h\ta  b\t\tc \td\t e":                           {Kind: Hash, Words: [5]uint32{10, 11, 12, 13, 14}},
		"#h f 00 0f 00000001 01234567 \t":                 {Kind: Hash, Words: [5]uint32{15, 0, 15, 1, 0x1234567}},
		"#h 12345678 9abcdef0 ffffffff 80000000 7fffffff": {Kind: Hash, Words: [5]uint32{0x12345678, 0x9abcdef0, 0xffffffff, 0x80000000, 0x7fffffff}},
		// Two numbers, with a remark and without.
		"0 0": {Kind: Data}, "1\t2": {Kind: Data, A: 1, B: 2}, "1 \t 2 \t": {Kind: Data, A: 1, B: 2},
		"999999999999999999 999999999999999998": {Kind: Data, A: 999999999999999999, B: 999999999999999998},
		"1 2 #":                                 {Kind: Data, A: 1, B: 2}, "1 2\t#": {Kind: Data, A: 1, B: 2}, "1 2 \t #x": {Kind: Data, A: 1, B: 2},
		"3 4 #$ 5": {Kind: Data, A: 3, B: 4}, "3 4 #h": {Kind: Data, A: 3, B: 4}, "3 4 # 5 6": {Kind: Data, A: 3, B: 4}, "3 4 #\n\xff\x00": {Kind: Data, A: 3, B: 4},
	} {
		if got, ok := Scan(s); !ok || got != want {
			t.Errorf("%q: %v %v, want %v", s, got, ok, want)
		}
		checkScan(t, s)
	}
}

// P10.2, R3: lines that say nothing: false, and the Line is zero.
func TestScanNothing(t *testing.T) {
	for _, s := range []string{
		"#hello", "a", "x 1 2", "\n", "\r", " \r", "\v", "\u00a0", "\xff", "\x00",
		// No blank where one is asked for, or none at all behind it.
		"#$", "#$ ", "#$5", "#@", "#@\t", "#@5", "#h", "#h ", "#h0 1 2 3 4", "#$\n5", "#$\v5", "#$\u00a05",
		// A blank ahead of what has none ahead of it.
		" #", " # x", "\t#$ 5", " #@ 5", " #h 0 1 2 3 4", " 1 2", "\t1 2", " $5",
		// Numbers with a 0 ahead, of 19 digits and more, with signs, or of other digits.
		"#$ 00", "#$ 01", "#@ 05", "#@ 000000000000000000", "#$ 1000000000000000000", "#@ 1000000000000000000", "#$ 0000000000000000001",
		"#$ 18446744073709551617", "#@ " + strings.Repeat("9", 1000), "#$ -1", "#$ +1", "#$ 1a", "#$ a", "#@ 1_0", "#$ 1.", "#@ 0x1", "#$ ٣",
		// More than a number.
		"#$ 5 6", "#@ 5 6", "#$ 5 #", "#@ 5 # x", "#$ 5#", "#$ 5\r", "#@ 5\n",
		// Four words, and six; words of none, of 9, and of other signs.
		"#h 0 1 2 3", "#h 0 1 2 3 ", "#h 0 1 2 3 4 5", "#h 0 1 2 3 4 #", "#h 0 1 2 3 123456789", "#h 000000000 1 2 3 4", "#h 0 1 2 3 A", "#h F 1 2 3 4",
		"#h 0 1 2 3 g", "#h 0 1 2 3 `", "#h 0 1 2 3 -1", "#h 0 1 2 3 0x4", "#h 0,1,2,3,4", "#h 0 1 2 3 4\r", "#h 0 1 2 3 4\n", "#h x 0 1 2 3 4",
		// One number, three, and none behind a blank.
		"1", "1 ", "1\t\t", "0", "1 2 3", "1 2 3 #", "1 2 x", "1 # 2", "1 #", "1#", "1 x",
		// A remark without a blank ahead of it.
		"1 2#", "1 2# x", "1 2#\t", "12#3 4",
		"01 2", "1 02", "00 1", "1 00", "-1 2", "1 -2", "+1 2", "1 +2", "a 1", "1 a", "1a 2", "1 2a", "1,2", "1.0 2", "1\n2", "1 2\n", "1 2\r", "1 2\r #",
		"1000000000000000000 1", "1 1000000000000000000", "18446744073709551617 1", "1 18446744073709551617", strings.Repeat("1", 1000) + " 1",
	} {
		if got, ok := Scan(s); ok || got != (Line{}) {
			t.Errorf("%q: %v %v, want none", s, got, ok)
		}
		checkScan(t, s)
	}
}

// P10.2: numbers and words of every length.
func TestLengths(t *testing.T) {
	for n := range 25 {
		for _, digit := range []string{"0", "1", "9"} {
			number := strings.Repeat(digit, n)
			checkScan(t, "#$ "+number)
			checkScan(t, "#@\t"+number+" ")
			checkScan(t, number+" 1")
			checkScan(t, "1\t"+number)
			checkScan(t, number+"\t"+number+" #"+number)
		}
	}
	for n := range 12 {
		for _, sign := range []string{"0", "7", "9", "a", "f"} {
			for place := range 5 {
				words := []string{"1", "22", "333", "4444", "55555"}
				words[place] = strings.Repeat(sign, n)
				checkScan(t, "#h "+strings.Join(words, " "))
				checkScan(t, "#h\t"+strings.Join(words, "\t")+"\t")
			}
		}
	}
	for n := range 12 {
		checkScan(t, "#h"+strings.Repeat(" 1f", n))
		checkScan(t, strings.TrimPrefix(strings.Repeat(" 1", n), " "))
	}
}

// P10.2, R1: every short line of the signs that count, and of some that do not.
func TestEveryShortLine(t *testing.T) {
	for _, s := range texts(" \t#$@h01af\nx", 4) {
		checkScan(t, s)
		checkScan(t, "#"+s)
		checkScan(t, "1 "+s)
	}
	for _, s := range texts(" 1#", 9) {
		checkScan(t, s)
	}
	for _, s := range texts(" 0", 13) {
		checkScan(t, "#h"+s)
	}
}

// good answers lines of each kind.
func good() []string {
	return []string{
		"", " \t", "#", "# a remark", "#$ 3676924800", "#@\t3833827200 ", "#$ 999999999999999999",
		"#h 0 12 abc 9876fedc 00000000\t", "2272060800\t10\t# 1 Jan 1972", "10 20", "0 999999999999999999 ",
	}
}

// P10.2, R1: lines with one byte, whichever, more, less, or another one.
func TestOneByteTurned(t *testing.T) {
	for _, s := range good() {
		for place := range len(s) + 1 {
			for v := range 256 {
				c := string([]byte{byte(v)})
				checkScan(t, s[:place]+c+s[place:])
				if place < len(s) {
					checkScan(t, s[:place]+c+s[place+1:])
				}
			}
			checkScan(t, s[:place])
			checkScan(t, s[place:])
			if place < len(s) {
				checkScan(t, s[:place]+s[place+1:])
			}
		}
	}
}

// P10.2, R1: lines put together of pieces, and of any bytes.
func TestChance(t *testing.T) {
	r := rand.New(rand.NewPCG(10, 1))
	pieces := []string{" ", " ", "\t", " \t ", "#", "#$", "#@", "#h", "0", "1", "12", "999999999999999999", "1000000000000000000", "ffffffff", "abc", "123456789", "x", "\n"}
	for range 30000 {
		s := ""
		for range r.IntN(14) {
			s += pieces[r.IntN(len(pieces))]
		}
		checkScan(t, s)
		b := make([]byte, r.IntN(20))
		for i := range b {
			b[i] = byte(r.Uint32())
		}
		checkScan(t, string(b))
	}
}

// P10.2, R7: long lines.
func TestLongLines(t *testing.T) {
	const many = 1 << 16
	blanks, nines := strings.Repeat(" \t", many), strings.Repeat("9", many)
	for _, s := range []string{
		blanks, blanks + "x", "#" + blanks, "#" + nines, "#$" + blanks + "5" + blanks, "#@" + blanks + nines, "#h" + strings.Repeat(blanks+"f", 5) + blanks,
		"#h" + strings.Repeat(" 1", many), "1" + blanks + "2" + blanks + "#" + blanks, "1" + blanks + "2" + blanks + "3", nines + " 1", "1 2 #" + nines, "1 2#" + nines,
	} {
		want, wantOK := wanted(t, s)
		if got, ok := Scan(s); got != want || ok != wantOK {
			t.Errorf("%.20q, %d bytes: %v %v, want %v %v", s, len(s), got, ok, want, wantOK)
		}
	}
}

// R5: lines asked again, others between, say the same.
func TestAgain(t *testing.T) {
	list := append(good(), "#hello", "1", "1 2#", "#$5")
	type answer struct {
		line Line
		ok   bool
	}
	var first []answer
	for _, s := range list {
		l, ok := Scan(s)
		first = append(first, answer{l, ok})
	}
	for range 3 {
		for n := range list {
			place := len(list) - 1 - n
			if l, ok := Scan(list[place]); (answer{l, ok}) != first[place] {
				t.Errorf("%q asked again: %v %v, first %v", list[place], l, ok, first[place])
			}
		}
	}
}
