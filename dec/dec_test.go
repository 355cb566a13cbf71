package dec

import (
	"math"
	"math/big"
	"math/rand/v2"
	"regexp"
	"strconv"
	"strings"
	"testing"

	"epact/api"
)

const (
	mostText  = "170141183460469231731687303715884105727"
	leastText = "-170141183460469231731687303715884105728"
)

var (
	least = api.Wide{Hi: math.MinInt64}
	most  = api.Wide{Hi: math.MaxInt64, Lo: math.MaxUint64}
)

func bigOf(a api.Wide) *big.Int {
	n := big.NewInt(a.Hi)
	n.Lsh(n, 64)
	return n.Add(n, new(big.Int).SetUint64(a.Lo))
}

// wideOf answers n, which must fit.
func wideOf(n *big.Int) api.Wide {
	word := new(big.Int).Lsh(big.NewInt(1), 64)
	hi, lo := new(big.Int).DivMod(n, word, new(big.Int))
	return api.Wide{Hi: hi.Int64(), Lo: lo.Uint64()}
}

func fits(n *big.Int) bool {
	return n.Cmp(bigOf(least)) >= 0 && n.Cmp(bigOf(most)) <= 0
}

// edges answers powers of ten and of two, on both sides of 0, with what is beside them, within a Wide's range and beyond it.
func edges() []*big.Int {
	var list []*big.Int
	add := func(n *big.Int) {
		for more := int64(-11); more <= 11; more++ {
			near := new(big.Int).Add(n, big.NewInt(more))
			list = append(list, near, new(big.Int).Neg(near))
		}
	}
	for i := range int64(60) {
		add(new(big.Int).Exp(big.NewInt(10), big.NewInt(i), nil))
	}
	for i := range uint(200) {
		add(new(big.Int).Lsh(big.NewInt(1), i))
	}
	return list
}

// drawn answers n Wides of all lengths on both sides of 0; the same ones for the same seed.
func drawn(seed uint64, n int) []api.Wide {
	source := rand.New(rand.NewPCG(seed, 4))
	list := make([]api.Wide, n)
	for i := range list {
		a := api.Wide{Hi: int64(source.Uint64()), Lo: source.Uint64()}
		for range source.IntN(128) {
			a.Lo = a.Lo>>1 | uint64(a.Hi)<<63
			a.Hi >>= 1
		}
		list[i] = a
	}
	return list
}

var numberText = regexp.MustCompile(`\A(0|-?[1-9][0-9]*)\z`)

// checkParse holds what Parse answers of s against what the form and math/big say.
func checkParse(t *testing.T, s string) {
	t.Helper()
	var want api.Wide
	wantE := api.ErrForm
	if numberText.MatchString(s) {
		n, ok := new(big.Int).SetString(s, 10)
		if !ok {
			t.Fatalf("%q: no number of math/big", s)
		}
		wantE = api.ErrOver
		if fits(n) {
			want, wantE = wideOf(n), api.OK
		}
	}
	if a, e := Parse(s); a != want || e != wantE {
		t.Fatalf("Parse(%q) = %v, %d; want %v, %d", s, a, e, want, wantE)
	}
}

// checkBoth tells that Print answers this text of a, and that Parse reads it as a again.
func checkBoth(t *testing.T, a api.Wide, text string) {
	t.Helper()
	if s := Print(a); s != text {
		t.Fatalf("Print(%v) = %q; want %q", a, s, text)
	}
	if b, e := Parse(text); b != a || e != api.OK {
		t.Fatalf("Parse(%q) = %v, %d; want %v", text, b, e, a)
	}
}

// P4.1
func TestPrintAndParseTable(t *testing.T) {
	for _, c := range []struct {
		a    api.Wide
		text string
	}{
		{api.Wide{}, "0"},
		{api.Wide{Lo: 1}, "1"},
		{api.Wide{Lo: 9}, "9"},
		{api.Wide{Lo: 10}, "10"},
		{api.Wide{Lo: 100}, "100"},
		{api.Wide{Lo: 1203}, "1203"},
		{api.Wide{Hi: -1, Lo: math.MaxUint64}, "-1"},
		{api.Wide{Hi: -1, Lo: math.MaxUint64 - 8}, "-9"},
		{api.Wide{Hi: -1, Lo: math.MaxUint64 - 9}, "-10"},
		{api.Wide{Lo: api.Second}, "1000000000000000000"},
		{api.Wide{Lo: math.MaxInt64}, "9223372036854775807"},
		{api.Wide{Lo: 1 << 63}, "9223372036854775808"},
		{api.Wide{Hi: -1, Lo: 1 << 63}, "-9223372036854775808"},
		{api.Wide{Hi: -1, Lo: 1<<63 - 1}, "-9223372036854775809"},
		{api.Wide{Lo: 9999999999999999999}, "9999999999999999999"},
		{api.Wide{Lo: 10000000000000000000}, "10000000000000000000"},
		{api.Wide{Lo: 10000000000000000001}, "10000000000000000001"},
		{api.Wide{Lo: math.MaxUint64}, "18446744073709551615"},
		{api.Wide{Hi: 1}, "18446744073709551616"},
		{api.Wide{Hi: -1}, "-18446744073709551616"},
		{api.Wide{Hi: -2, Lo: math.MaxUint64}, "-18446744073709551617"},
		{most, mostText},
		{api.Wide{Hi: math.MaxInt64, Lo: math.MaxUint64 - 1}, "170141183460469231731687303715884105726"},
		{least, leastText},
		{api.Wide{Hi: math.MinInt64, Lo: 1}, "-" + mostText},
	} {
		checkBoth(t, c.a, c.text)
	}
}

// P4.1: what strconv says of small numbers, each of them.
func TestPrintAndParseSmall(t *testing.T) {
	for n := -20000; n <= 20000; n++ {
		checkBoth(t, api.Wide{Hi: int64(n) >> 63, Lo: uint64(n)}, strconv.Itoa(n))
	}
}

// P4.1: powers of ten and of two and what is beside them; those that fit are printed and read, the others ErrOver.
func TestPrintAndParseAtEdges(t *testing.T) {
	inside, outside := 0, 0
	for _, n := range edges() {
		checkParse(t, n.String())
		if fits(n) {
			inside++
			checkBoth(t, wideOf(n), n.String())
		} else {
			outside++
		}
	}
	if inside == 0 || outside == 0 {
		t.Errorf("%d edges fit, %d do not: want some of both", inside, outside)
	}
}

// P4.1
func TestPrintAndParseDrawn(t *testing.T) {
	for _, a := range drawn(1, 20000) {
		checkBoth(t, a, bigOf(a).String())
	}
}

// P4.1: the texts that the chapter and its words rule out.
func TestParseNoNumber(t *testing.T) {
	for _, s := range []string{
		"", "-", "--", "+", "-0", "+0", "+1", "00", "-00", "000", "01", "-01", "007", "0-", "0-0", "--0",
		"--1", "-+1", "+-1", "1-", "1-2", "-1-", "1+1",
		" ", " 1", "1 ", "1 2", "- 1", "-1 ", "\t1", "1\n", "1\r\n", "\x001", "1\x00",
		"a", "1a", "a1", "-a", "-1a", "0x1", "0b1", "0o7", "1_000", "1,000", "1.0", "1.", ".1", "1e3", "0.", "0e0",
		"/", ":", "1/", "1:", "-/", "-:", "inf", "nan",
		"\u0661", "1\u0662", "\uff11", "\u00b9", "\u22121", "\u20131", "\ufeff1", "\u0096", "\xff", "1\xff", "\xb1", "\xad1",
		"0" + mostText, "-0" + mostText, "+" + mostText, mostText + " ", mostText + "-", " " + leastText, "-" + leastText, "0" + leastText,
	} {
		if a, e := Parse(s); a != (api.Wide{}) || e != api.ErrForm {
			t.Errorf("Parse(%q) = %v, %d; want ErrForm", s, a, e)
		}
	}
}

// P4.1: numbers out of range, also those that would come into it again if one let them wrap.
func TestParseOver(t *testing.T) {
	for _, s := range []string{
		"170141183460469231731687303715884105728",
		"170141183460469231731687303715884105729",
		"170141183460469231731687303715884105730",
		"-170141183460469231731687303715884105729",
		"-170141183460469231731687303715884105730",
		"170141183460469231731687303715884105737",
		"-170141183460469231731687303715884105738",
		"180000000000000000000000000000000000000",
		"-180000000000000000000000000000000000000",
		"999999999999999999999999999999999999999",
		"-999999999999999999999999999999999999999",
		"1000000000000000000000000000000000000000",
		"-1000000000000000000000000000000000000000",
		"340282366920938463463374607431768211455",
		"340282366920938463463374607431768211456",
		"340282366920938463463374607431768211457",
		"-340282366920938463463374607431768211455",
		"-340282366920938463463374607431768211456",
		"-340282366920938463463374607431768211457",
		mostText + "0", leastText + "0", mostText + "9", mostText + mostText,
	} {
		if a, e := Parse(s); a != (api.Wide{}) || e != api.ErrOver {
			t.Errorf("Parse(%q) = %v, %d; want ErrOver", s, a, e)
		}
	}
}

// P4.1: the form is wrong first, however many digits there are and wherever the wrong sign is.
func TestParseManyDigits(t *testing.T) {
	for _, many := range []int{38, 39, 40, 41, 64, 128, 1000, 1 << 20} {
		nines, zeros := strings.Repeat("9", many), strings.Repeat("0", many)
		for s, want := range map[string]api.Errno{
			"1" + zeros + nines:       api.ErrOver,
			"-1" + zeros + nines:      api.ErrOver,
			nines + nines:             api.ErrOver,
			"-" + nines + nines:       api.ErrOver,
			zeros:                     api.ErrForm,
			"-" + zeros:               api.ErrForm,
			zeros + "1":               api.ErrForm,
			"-" + zeros + "1":         api.ErrForm,
			"0" + nines:               api.ErrForm,
			"+" + nines:               api.ErrForm,
			nines + "a":               api.ErrForm,
			"-" + nines + " ":         api.ErrForm,
			nines + "-" + nines:       api.ErrForm,
			nines + "\xff" + nines:    api.ErrForm,
			"--" + nines:              api.ErrForm,
			nines + zeros + "\u0661":  api.ErrForm,
			strings.Repeat("-", many): api.ErrForm,
			strings.Repeat("a", many): api.ErrForm,
		} {
			if a, e := Parse(s); a != (api.Wide{}) || e != want {
				t.Errorf("%d: Parse(%.50q..) = %v, %d; want %d", many, s, a, e, want)
			}
		}
	}
}

// P4.1: every text of up to two bytes, and every one of up to six of those that matter.
func TestParseShortTexts(t *testing.T) {
	for a := range 256 {
		checkParse(t, string([]byte{byte(a)}))
		for b := range 256 {
			checkParse(t, string([]byte{byte(a), byte(b)}))
		}
	}
	texts := []string{""}
	for range 6 {
		var longer []string
		for _, s := range texts {
			for _, sign := range "-+019 a" {
				checkParse(t, s+string(sign))
				longer = append(longer, s+string(sign))
			}
		}
		texts = longer
	}
}

// P4.1: a number's text, with one byte of it put in, taken out or made another.
func TestParseChangedTexts(t *testing.T) {
	source := rand.New(rand.NewPCG(2, 4))
	const signs = "-+0123456789 a\x00\xff"
	texts := []string{"0", "-1", mostText, leastText}
	for _, a := range drawn(3, 2000) {
		texts = append(texts, bigOf(a).String())
	}
	for _, s := range texts {
		for range 20 {
			at := source.IntN(len(s))
			sign := string(signs[source.IntN(len(signs))])
			checkParse(t, s[:at]+sign+s[at:])
			checkParse(t, s[:at]+sign+s[at+1:])
			checkParse(t, s[:at]+s[at+1:])
			checkParse(t, s+sign)
		}
	}
}
