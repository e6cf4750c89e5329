package crc_test

import (
	"bytes"
	"hash/crc32"
	"math/bits"
	"testing"

	"snaffle/crc"
)

// mixed is n bytes of all values, the same ones each time.
func mixed(n int) []byte {
	b := make([]byte, n)
	x := uint32(12345)
	for i := range b {
		x = x*1664525 + 1013904223
		b[i] = byte(x >> 24)
	}
	return b
}

// sums are registers of many kinds: none, all ones, each bit alone, and others.
func sums() []uint32 {
	l := []uint32{0, ^uint32(0), 77, 0xEDB88320, 0x12345678, 0xDEBB20E3}
	for i := range 32 {
		l = append(l, 1<<i, ^uint32(1<<i))
	}
	return l
}

// P2.1: sums by name, the chapter's example among them.
func TestSum(t *testing.T) {
	for _, x := range []struct {
		text string
		want uint32
	}{
		{"", 0},
		{"\x00", 0xD202EF8D},
		{"\x01", 0xA505DF1B},
		{"\x80", 0x3FBA6CAD},
		{"\xff", 0xFF000000},
		{"\x00\x00", 0x41D912FF},
		{"\xff\xff\xff\xff", 0xFFFFFFFF},
		{"\x00\x00\x00\x00", 0x2144DF1C},
		{"a", 0xE8B7BE43},
		{"abc", 0x352441C2},
		{"123456789", 0xCBF43926},
		{"The quick brown fox jumps over the lazy dog", 0x414FA339},
	} {
		if got := crc.Sum([]byte(x.text)); got != x.want {
			t.Errorf("Sum(%q) = %08X; want %08X", x.text, got, x.want)
		}
	}
}

// P2.1: no bytes, nil or empty, come to 0, and change no sum.
func TestNoBytes(t *testing.T) {
	for _, none := range [][]byte{nil, {}, mixed(9)[4:4]} {
		if got := crc.Sum(none); got != 0 {
			t.Errorf("Sum of no bytes = %08X; want 0", got)
		}
		for _, sum := range sums() {
			if got := crc.More(sum, none); got != sum {
				t.Errorf("More(%08X) of no bytes = %08X", sum, got)
			}
		}
	}
}

// P2.1: Sum is what the library's sum of the same rule says, at all bytes and at many lengths.
func TestSumAgainstLibrary(t *testing.T) {
	for c := range 256 {
		b := []byte{byte(c)}
		if got, want := crc.Sum(b), crc32.ChecksumIEEE(b); got != want {
			t.Errorf("Sum(%v) = %08X; want %08X", b, got, want)
		}
	}
	text := mixed(300)
	for i := range len(text) + 1 {
		if got, want := crc.Sum(text[:i]), crc32.ChecksumIEEE(text[:i]); got != want {
			t.Errorf("Sum of %d bytes = %08X; want %08X", i, got, want)
		}
	}
	for _, b := range [][]byte{mixed(1 << 20), make([]byte, 65536), bytes.Repeat([]byte{0xFF}, 65536)} {
		if got, want := crc.Sum(b), crc32.ChecksumIEEE(b); got != want {
			t.Errorf("Sum of %d bytes = %08X; want %08X", len(b), got, want)
		}
	}
}

// P2.1: More goes on from whatever sum, as the library's does.
func TestMoreAgainstLibrary(t *testing.T) {
	text := mixed(20)
	for _, sum := range sums() {
		for c := range 256 {
			b := []byte{byte(c)}
			if got, want := crc.More(sum, b), crc32.Update(sum, crc32.IEEETable, b); got != want {
				t.Fatalf("More(%08X, %v) = %08X; want %08X", sum, b, got, want)
			}
		}
		for i := range len(text) + 1 {
			if got, want := crc.More(sum, text[:i]), crc32.Update(sum, crc32.IEEETable, text[:i]); got != want {
				t.Fatalf("More(%08X) of %d bytes = %08X; want %08X", sum, i, got, want)
			}
		}
	}
}

// P2.2: More(Sum(a), b) is the sum of a and b, one behind the other.
func TestMoreBehindSum(t *testing.T) {
	text := mixed(200)
	want := crc.Sum(text)
	for i := range len(text) + 1 {
		if got := crc.More(crc.Sum(text[:i]), text[i:]); got != want {
			t.Errorf("cut at %d: %08X; want %08X", i, got, want)
		}
	}
	sum := crc.Sum(nil)
	for i := range text {
		sum = crc.More(sum, text[i:i+1])
		if got := crc.Sum(text[:i+1]); got != sum {
			t.Errorf("byte by byte, %d bytes come to %08X; at once to %08X", i+1, sum, got)
		}
	}
}

// P2.2: each change of one byte, or of two that follow one another, at each place, makes the sum another.
func TestFewChanges(t *testing.T) {
	text := mixed(12)
	want := crc.Sum(text)
	for i := range len(text) - 1 {
		for change := 1; change < 1<<16; change++ {
			b := bytes.Clone(text)
			b[i] ^= byte(change)
			b[i+1] ^= byte(change >> 8)
			if crc.Sum(b) == want {
				t.Fatalf("changed by %04X at %d, the sum stays", change, i)
			}
		}
	}
}

// turn is b with those bits turned that change has, in the four bytes from at on.
func turn(b []byte, at int, change uint32) []byte {
	b = bytes.Clone(b)
	for i := range 4 {
		b[at+i] ^= byte(change >> (8 * i))
	}
	return b
}

// turns are what each bit of the four bytes from at on turns in the sum.
func turns(b []byte, at int) []uint32 {
	sum := crc.Sum(b)
	var l []uint32
	for i := range 32 {
		l = append(l, crc.Sum(turn(b, at, 1<<i))^sum)
	}
	return l
}

// independent: however some of l are chosen, they don't turn one another back to nothing.
func independent(l []uint32) bool {
	var byHighest [33]uint32
	for _, n := range l {
		for n != 0 && byHighest[bits.Len32(n)] != 0 {
			n ^= byHighest[bits.Len32(n)]
		}
		if n == 0 {
			return false
		}
		byHighest[bits.Len32(n)] = n
	}
	return true
}

// P2.2: unlike only within four bytes that follow one another, the sums are unlike. There are too many
// such changes to try each; what several bits turn is what each of them turns, together, so it is
// enough that those of the 32 bits are independent.
func TestFourBytes(t *testing.T) {
	for _, n := range []int{4, 5, 7, 8, 20, 72, 1000} {
		text := mixed(n)
		sum := crc.Sum(text)
		for at := 0; at+4 <= n; at += 1 + n/40 {
			each := turns(text, at)
			if !independent(each) {
				t.Fatalf("of %d bytes, some change of the four at %d keeps the sum", n, at)
			}
			for _, change := range sums() {
				want := sum
				for i, turned := range each {
					if change>>i&1 == 1 {
						want ^= turned
					}
				}
				if got := crc.Sum(turn(text, at, change)); got != want || got == sum && change != 0 {
					t.Fatalf("of %d bytes, changed by %08X at %d: %08X; want %08X, unlike %08X", n, change, at, got, want, sum)
				}
			}
		}
	}
}

// P2.1: the order of bytes counts, and so does how many there are.
func TestOrderAndLength(t *testing.T) {
	if crc.Sum([]byte("ab")) == crc.Sum([]byte("ba")) {
		t.Error("two bytes, turned about, have the same sum")
	}
	seen := map[uint32]int{}
	for n := range 1000 {
		sum := crc.Sum(make([]byte, n))
		if was, ok := seen[sum]; ok {
			t.Errorf("%d and %d bytes of 0 have the same sum", was, n)
		}
		seen[sum] = n
	}
}

// Rules 3 and 4 of the document: what is handed in is not changed, its spare room neither, and nothing
// is kept from call to call.
func TestLeavesItsBytes(t *testing.T) {
	room := mixed(40)
	was := bytes.Clone(room)
	first, more := crc.Sum(room[:10]), crc.More(77, room[:10])
	if !bytes.Equal(room, was) {
		t.Error("the bytes became others")
	}
	crc.Sum(room)
	if crc.Sum(room[:10]) != first || crc.More(77, room[:10]) != more {
		t.Error("the same bytes have another sum later")
	}
}
