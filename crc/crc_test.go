package crc

import (
	"hash/crc32"
	"strings"
	"testing"
)

// numbers gives always the same numbers, one behind the other.
type numbers uint32

func (n *numbers) next() uint32 {
	*n = *n*1664525 + 1013904223
	return uint32(*n) ^ uint32(*n)>>15
}

func (n *numbers) text(size int) string {
	b := make([]byte, size)
	for i := range b {
		b[i] = byte(n.next() >> 8)
	}
	return string(b)
}

// bitByBit is the chapter's C1 and C2, word for word.
func bitByBit(state uint32, s string) uint32 {
	for i := range len(s) {
		state ^= uint32(s[i])
		for range 8 {
			fell := state & 1
			state >>= 1
			if fell == 1 {
				state ^= 0xedb88320
			}
		}
	}
	return ^state
}

func xor(texts ...string) string {
	b := []byte(texts[0])
	for _, s := range texts[1:] {
		for i := range b {
			b[i] ^= s[i]
		}
	}
	return string(b)
}

func TestExamples(t *testing.T) {
	for s, want := range map[string]uint32{"123456789": 0xcbf43926, "a": 0xe8b7be43, "\x00": 0xd202ef8d, "": 0, "1234": 0x9be3e0a3} {
		if got := Sum(s); got != want {
			t.Errorf("C2: Sum(%q) = %x, want %x", s, got, want)
		}
	}
	for _, c := range []struct {
		sum  uint32
		s    string
		want uint32
	}{{0x9be3e0a3, "56789", 0xcbf43926}, {7, "", 7}, {0, "a", 0xe8b7be43}, {0, "", 0}, {0xffffffff, "", 0xffffffff}} {
		if got := Extend(c.sum, c.s); got != c.want {
			t.Errorf("C2: Extend(%x, %q) = %x, want %x", c.sum, c.s, got, c.want)
		}
	}
}

func TestSumBitByBit(t *testing.T) {
	n := numbers(1)
	texts := []string{"", strings.Repeat("\x00", 100), strings.Repeat("\xff", 100), n.text(100000), "\xff\xfe is not UTF-8 \xc3"}
	for b := range 256 {
		texts = append(texts, string([]byte{byte(b)}))
	}
	for size := range 200 {
		texts = append(texts, n.text(size))
	}
	for _, s := range texts {
		if got, want := Sum(s), bitByBit(0xffffffff, s); got != want {
			t.Errorf("C1: Sum of %d bytes = %x, want %x", len(s), got, want)
		}
		if got, want := Sum(s), crc32.ChecksumIEEE([]byte(s)); got != want {
			t.Errorf("C1: Sum of %d bytes = %x, the library's %x", len(s), got, want)
		}
	}
}

func TestExtendBitByBit(t *testing.T) {
	n := numbers(2)
	for size := range 200 {
		sum, s := n.next(), n.text(size)
		if got, want := Extend(sum, s), bitByBit(^sum, s); got != want {
			t.Errorf("C2: Extend(%x, %d bytes) = %x, want %x", sum, size, got, want)
		}
	}
	for _, sum := range []uint32{0, 1, 7, 0x80000000, 0xffffffff, 0xedb88320} {
		if got := Extend(sum, ""); got != sum {
			t.Errorf("C2: Extend(%x) by nothing = %x", sum, got)
		}
	}
}

func TestParts(t *testing.T) {
	n := numbers(3)
	for size := range 60 {
		whole, start := n.text(size), n.next()
		for cut := range size + 1 {
			a, b := whole[:cut], whole[cut:]
			if got, want := Extend(Sum(a), b), Sum(whole); got != want {
				t.Errorf("P2.1: %d bytes cut at %d: %x, want %x", size, cut, got, want)
			}
			if got, want := Extend(Extend(start, a), b), Extend(start, whole); got != want {
				t.Errorf("P2.1: from %x, %d bytes cut at %d: %x, want %x", start, size, cut, got, want)
			}
		}
	}
}

// turned is s with the bits of pattern turned, from that bit on; the lowest bit of each byte is its first.
func turned(s string, from int, pattern uint32) string {
	b := []byte(s)
	for k := range 32 {
		if at := from + k; pattern>>k&1 == 1 && at < 8*len(b) {
			b[at/8] ^= 1 << (at % 8)
		}
	}
	return string(b)
}

func TestTurned(t *testing.T) {
	n := numbers(4)
	patterns := []uint32{1, 3, 0x80000001, 0xffffffff, 0xedb88320, 0xdb710641, 0x82608edb, 0x04c11db7}
	for k := range 32 {
		patterns = append(patterns, 1<<k|1, n.next()|1)
	}
	for _, size := range []int{1, 2, 4, 5, 9, 64} {
		for _, s := range []string{n.text(size), strings.Repeat("\x00", size), strings.Repeat("\xff", size)} {
			for from := range 8 * size {
				for _, p := range patterns {
					if other := turned(s, from, p); other != s && Sum(other) == Sum(s) {
						t.Errorf("P2.2: %d bytes, the bits %x turned from %d on: the same sum", size, p, from)
					}
				}
			}
		}
	}
}

func TestPlain(t *testing.T) {
	n := numbers(5)
	for size := range 200 {
		a, b, c := n.text(size), n.text(size), n.text(size)
		if got, want := Sum(xor(a, b, c)), Sum(a)^Sum(b)^Sum(c); got != want {
			t.Errorf("P2.3: texts of %d bytes: %x, want %x", size, got, want)
		}
	}
}

func TestApart(t *testing.T) {
	n := numbers(6)
	sums := []uint32{0, 0xffffffff, 0xedb88320}
	for k := range 32 {
		sums = append(sums, 1<<k, ^uint32(1<<k), n.next())
	}
	texts := []string{"", "\x00", "a", "\xff", n.text(3), n.text(4), n.text(5), n.text(1000)}
	for _, s := range texts {
		made := map[uint32]uint32{}
		for _, sum := range sums {
			extended := Extend(sum, s)
			if other, ok := made[extended]; ok && other != sum {
				t.Errorf("P2.4: %x and %x become the same by %d bytes", sum, other, len(s))
			}
			made[extended] = sum
		}
	}
}

// TestApartByEachByte: by one byte, sums that differ in their lowest eight bits become unlike, whatever the byte.
func TestApartByEachByte(t *testing.T) {
	for b := range 256 {
		made := map[uint32]int{}
		for low := range 256 {
			made[Extend(0x12345600|uint32(low), string([]byte{byte(b)}))]++
		}
		if len(made) != 256 {
			t.Errorf("P2.4: by the byte %d, 256 sums become %d", b, len(made))
		}
	}
}
