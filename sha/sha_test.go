package sha

import (
	"bytes"
	"crypto/sha1"
	"encoding/binary"
	"encoding/hex"
	"math/rand/v2"
	"slices"
	"strings"
	"testing"
)

// wordsOf answers the five words of a sum, the highest byte of each first.
func wordsOf(sum [20]byte) (w [5]uint32) {
	for n := range w {
		w[n] = binary.BigEndian.Uint32(sum[4*n:])
	}
	return w
}

// check holds Sum and Words of b against the library's.
func check(t *testing.T, what string, b []byte) {
	t.Helper()
	want := sha1.Sum(b)
	if got := Sum(b); got != want {
		t.Errorf("%s, %d bytes: Sum %x, want %x", what, len(b), got, want)
	}
	if got := Words(b); got != wordsOf(want) {
		t.Errorf("%s, %d bytes: Words %08x, want %08x", what, len(b), got, wordsOf(want))
	}
}

// noise answers n bytes that look like chance, the same ones every time.
func noise(seed uint64, n int) []byte {
	r := rand.New(rand.NewPCG(seed, 9))
	b := make([]byte, n)
	for i := range b {
		b[i] = byte(r.Uint32())
	}
	return b
}

// P9.1: the chapter's example; nil and empty are the same (R4).
func TestNoBytes(t *testing.T) {
	want := [5]uint32{0xda39a3ee, 0x5e6b4b0d, 0x3255bfef, 0x95601890, 0xafd80709}
	for _, b := range [][]byte{nil, {}, make([]byte, 0, 64), noise(1, 64)[:0]} {
		if got := Words(b); got != want {
			t.Errorf("no bytes: Words %08x, want %08x", got, want)
		}
		if got := wordsOf(Sum(b)); got != want {
			t.Errorf("no bytes: Sum %08x, want %08x", got, want)
		}
	}
}

// P9.1: sums that are published, of texts that are.
func TestPublished(t *testing.T) {
	for text, want := range map[string]string{
		"":    "da39a3ee5e6b4b0d3255bfef95601890afd80709",
		"a":   "86f7e437faa5a7fce15d1ddcb9eaeaea377667b8",
		"abc": "a9993e364706816aba3e25717850c26c9cd0d89d",
		"abcdbcdecdefdefgefghfghighijhijkijkljklmklmnlmnomnopnopq":                                                         "84983e441c3bd26ebaae4aa1f95129e5e54670f1",
		"abcdefghbcdefghicdefghijdefghijkefghijklfghijklmghijklmnhijklmnoijklmnopjklmnopqklmnopqrlmnopqrsmnopqrstnopqrstu": "a49b2446a02c645bf419f995b67091253a04a259",
		"The quick brown fox jumps over the lazy dog":                                                                      "2fd4e1c67a2d28fced849ee1bb76e7391b93eb12",
		strings.Repeat("a", 1000000):                                                                                       "34aa973cd4c4daa4f61eeb2bdbad27316534016f",
	} {
		sum := Sum([]byte(text))
		if got := hex.EncodeToString(sum[:]); got != want {
			t.Errorf("%.60q: %s, want %s", text, got, want)
		}
	}
}

// P9.1: every length up to some blocks: those at which the length still fits into the last block, and those at which it does not, among them.
func TestLengths(t *testing.T) {
	b := noise(2, 1100)
	for n := range len(b) + 1 {
		check(t, "noise", b[:n])
	}
	for _, fill := range []byte{0, 1, 127, 128, 255} {
		b := bytes.Repeat([]byte{fill}, 64*4)
		for n := range len(b) + 1 {
			check(t, "one byte again and again", b[:n])
		}
	}
}

// P9.1: lengths about the ends of blocks, the same one and two blocks on; the sums of the shortest are written out, so that they hang on no other code.
func TestEndsOfBlocks(t *testing.T) {
	for n, want := range map[int]string{
		55: "c1c8bbdc22796e28c0e15163d20899b65621d65a",
		56: "c2db330f6083854c99d4b5bfb6e8f29f201be699",
		57: "f08f24908d682555111be7ff6f004e78283d989a",
		63: "03f09f5b158a7a8cdad920bddc29b81c18a551f5",
		64: "0098ba824b5c16427bd7a1122a5a442a25ec644d",
		65: "11655326c708d70319be2610e8a57d9a5b959d3b",
	} {
		for _, blocks := range []int{0, 1, 2} {
			check(t, "ends of blocks", bytes.Repeat([]byte("a"), n+64*blocks))
		}
		sum := Sum(bytes.Repeat([]byte("a"), n))
		if got := hex.EncodeToString(sum[:]); got != want {
			t.Errorf("%d letters: %s, want %s", n, got, want)
		}
	}
}

// P9.1: bytes of every value, one at a time, all of them, and at every place of a block.
func TestEveryByte(t *testing.T) {
	var all []byte
	for v := range 256 {
		all = append(all, byte(v))
		check(t, "one byte", []byte{byte(v)})
		check(t, "bytes up to a value", all)
		check(t, "a whole block", bytes.Repeat([]byte{byte(v)}, 64))
	}
	for place := range 128 {
		b := make([]byte, 128)
		for _, v := range []byte{1, 128, 255} {
			b[place] = v
			check(t, "one byte among zeros", b)
		}
	}
}

// P9.1: long inputs: the length in bits takes more bytes of its eight: two, three and four.
func TestLong(t *testing.T) {
	b := noise(3, 1<<24+70)
	for _, n := range []int{31, 32, 8191, 8192, 8193, 1<<20 + 55, 1 << 21, 1<<21 - 1, 1<<21 + 56, 1<<24 + 9} {
		check(t, "long", b[:n])
	}
}

// P9.1: the length in bits is in eight bytes, the highest first: told of lengths that no test can hand in.
func TestLengthInBits(t *testing.T) {
	for _, length := range []int{0, 1, 1<<29 - 1, 1 << 29, 1<<29 + 1, 1<<31 - 1} {
		for _, rest := range []int{0, 55, 56, 63} {
			tail, blocks := end(make([]byte, rest), length)
			wantBlocks := (rest + 1 + 8 + 63) / 64
			if blocks != wantBlocks {
				t.Fatalf("%d bytes left: %d blocks, want %d", rest, blocks, wantBlocks)
			}
			if got := binary.BigEndian.Uint64(tail[64*blocks-8:]); got != uint64(length)*8 {
				t.Errorf("%d bytes: %d bits, want %d", length, got, length*8)
			}
		}
	}
}

// P9.1: inputs of any length and any bytes, the library's sums.
func TestChance(t *testing.T) {
	r := rand.New(rand.NewPCG(4, 9))
	for n := range 3000 {
		check(t, "chance", noise(uint64(n)+100, r.IntN(400)))
	}
}

// P9.1: bytes that begin anywhere in a greater list: only those that are handed in count.
func TestPieces(t *testing.T) {
	b := noise(5, 400)
	for from := range 70 {
		for _, n := range []int{0, 1, 55, 56, 63, 64, 65, 130} {
			piece := b[from : from+n]
			check(t, "piece", piece)
			if Sum(piece) != Sum(slices.Clone(piece)) {
				t.Errorf("%d bytes from %d on: not the sum of a copy of them", n, from)
			}
		}
	}
}

// R4: what is handed in stays as it is, and what is behind it in memory.
func TestStays(t *testing.T) {
	for _, n := range []int{0, 1, 55, 56, 57, 63, 64, 65, 119, 120, 121, 127, 128, 129, 183, 184, 185, 191, 192, 193} {
		room := noise(6, n+200)
		before := slices.Clone(room)
		Sum(room[:n])
		Words(room[:n])
		if !bytes.Equal(room, before) {
			t.Errorf("%d bytes: what was handed in is changed, or what is behind it", n)
		}
	}
}

// R5: the same bytes asked again, other ones between, have the same sum; bytes that are changed behind a call have another, and the earlier answer stays.
func TestAgain(t *testing.T) {
	b := noise(7, 150)
	sum, words := Sum(b), Words(b)
	for n := range 200 {
		Sum(noise(8, n))
		Words(noise(9, n))
		if Sum(b) != sum || Words(b) != words {
			t.Fatalf("asked again: %x and %08x, first %x and %08x", Sum(b), Words(b), sum, words)
		}
	}
	want := sha1.Sum(b)
	b[149] ^= 1
	if sum != want || Sum(b) == want || Sum(b) != sha1.Sum(b) {
		t.Errorf("one bit turned: %x, ahead of it %x", Sum(b), sum)
	}
}
