package sum_test

import (
	"bytes"
	"hash/crc32"
	"math"
	"slices"
	"strings"
	"sync"
	"testing"

	"confluence/sum"
)

// starts are sums to go on from: the least, the greatest, those next to them, and some between.
var starts = []uint32{0, 1, 2, 0xff, 0xcbf43926, 0xedb88320, 0x12477cdf, math.MaxInt32, 1 << 31, math.MaxUint32 - 1, math.MaxUint32}

// numbers is a row of numbers that is the same each time.
type numbers uint64

func (n *numbers) next() uint64 {
	*n = *n*6364136223846793005 + 1442695040888963407
	x := uint64(*n)
	return (x ^ x>>29) * 0x9e3779b97f4a7c15 >> 7
}

func (n *numbers) text(length int) []byte {
	b := make([]byte, length)
	for i := range b {
		b[i] = byte(n.next())
	}
	return b
}

// upTo is the bytes from 0 to below the bound.
func upTo(bound int) []byte {
	b := make([]byte, bound)
	for i := range b {
		b[i] = byte(i)
	}
	return b
}

// texts are those that the tests go through again and again: of no bytes, of one, of many, alike and unlike.
func texts() [][]byte {
	l := [][]byte{nil, {}, {0}, {1}, {127}, {128}, {254}, {255}, {0, 0}, {0, 255}, {255, 0}, {255, 255}}
	l = append(l, []byte("123456789"), upTo(256))
	n := numbers(2)
	for _, length := range []int{2, 3, 4, 5, 7, 8, 9, 15, 16, 17, 31, 32, 33, 63, 64, 65, 255, 256, 257, 1000} {
		l = append(l, make([]byte, length), bytes.Repeat([]byte{255}, length), n.text(length))
	}
	return l
}

// byWords is More, word by word as the chapter tells it.
func byWords(s uint32, b []byte) uint32 {
	s ^= math.MaxUint32
	for _, c := range b {
		s ^= uint32(c)
		for range 8 {
			if s%2 == 1 {
				s = s/2 ^ 0xedb88320
			} else {
				s /= 2
			}
		}
	}
	return s ^ math.MaxUint32
}

func TestOfKnownTexts(t *testing.T) {
	for _, c := range []struct {
		text string
		want uint32
	}{
		{"", 0},
		{"123456789", 0xcbf43926},
		{"\x00", 0xd202ef8d},
		{"\x01", 0xa505df1b},
		{"\x7f", 0x12b88320},
		{"\x80", 0x3fba6cad},
		{"\xfe", 0x88073096},
		{"\xff", 0xff000000},
		{"a", 0xe8b7be43},
		{"\x00\x00", 0x41d912ff},
		{"\xff\xff", 0xffff0000},
		{"abc", 0x352441c2},
		{"\x00\x00\x00\x00", 0x2144df1c},
		{"\xff\xff\xff\xff", 0xffffffff},
		{strings.Repeat("\x00", 32), 0x190a55ad},
		{strings.Repeat("\xff", 32), 0xff6cab0b},
		{string(upTo(32)), 0x91267e8a},
		{string(upTo(256)), 0x29058c73},
		{"The quick brown fox jumps over the lazy dog", 0x414fa339},
	} {
		if got := sum.Of([]byte(c.text)); got != c.want {
			t.Errorf("P2.1: Of(%q) is %#08x, not %#08x", c.text, got, c.want)
		}
		if got := sum.More(0, []byte(c.text)); got != c.want {
			t.Errorf("P2.1: More(0, %q) is %#08x, not %#08x", c.text, got, c.want)
		}
	}
}

func TestMoreKnownTexts(t *testing.T) {
	for _, c := range []struct {
		s    uint32
		text string
		want uint32
	}{
		{0, "", 0},
		{1, "", 1},
		{1, "\x00", 0xa505df1b},
		{1, "\x01", 0xd202ef8d},
		{1, "\xff", 0x88073096},
		{1, "123456789", 0xdc8f2d65},
		{0x7fffffff, "\x80", 0x12c77cdf},
		{0x7fffffff, "123456789", 0xccb2c6af},
		{0x80000000, "\x00", 0xd282ef8d},
		{0x80000000, "123456789", 0xd5442dfe},
		{0xfffffffe, "\x01", 0xffffffff},
		{0xfffffffe, "123456789", 0xc579c634},
		{0xffffffff, "", 0xffffffff},
		{0xffffffff, "\x00", 0xffffffff},
		{0xffffffff, strings.Repeat("\x00", 100), 0xffffffff},
		{0xffffffff, "\x01", 0x88f8cf69},
		{0xffffffff, "\xff", 0xd2fd1072},
		{0xffffffff, "123456789", 0xd202d277},
		{0xcbf43926, "123456789", 0x4b837ae4},
	} {
		if got := sum.More(c.s, []byte(c.text)); got != c.want {
			t.Errorf("P2.1: More(%#08x, %q) is %#08x, not %#08x", c.s, c.text, got, c.want)
		}
	}
}

func TestNoBytesLeaveTheSum(t *testing.T) {
	for _, none := range [][]byte{nil, {}, make([]byte, 0, 8), []byte("abc")[3:]} {
		if got := sum.Of(none); got != 0 {
			t.Errorf("P2.1: Of nothing is %#08x", got)
		}
		for _, s := range starts {
			if got := sum.More(s, none); got != s {
				t.Errorf("P2.1: More(%#08x, nothing) is %#08x", s, got)
			}
		}
	}
}

func TestEachByte(t *testing.T) {
	for c := range 256 {
		b := []byte{byte(c)}
		if got, want := sum.Of(b), byWords(0, b); got != want {
			t.Errorf("P2.1: Of(byte %d) is %#08x, not %#08x", c, got, want)
		}
		for _, s := range starts {
			if got, want := sum.More(s, b), byWords(s, b); got != want {
				t.Errorf("P2.1: More(%#08x, byte %d) is %#08x, not %#08x", s, c, got, want)
			}
		}
	}
}

func TestAsTheWordsTell(t *testing.T) {
	for _, b := range texts() {
		if got, want := sum.Of(b), byWords(0, b); got != want {
			t.Errorf("P2.1: Of(%x) is %#08x, not %#08x", b, got, want)
		}
		for _, s := range starts {
			if got, want := sum.More(s, b), byWords(s, b); got != want {
				t.Errorf("P2.1: More(%#08x, %x) is %#08x, not %#08x", s, b, got, want)
			}
		}
	}
}

func TestAsInEthernetAndZip(t *testing.T) {
	n := numbers(21)
	for length := range 300 {
		b, s := n.text(length), uint32(n.next())
		if got, want := sum.Of(b), crc32.ChecksumIEEE(b); got != want {
			t.Errorf("P2.1: Of(%x) is %#08x, not %#08x", b, got, want)
		}
		if got, want := sum.More(s, b), crc32.Update(s, crc32.IEEETable, b); got != want {
			t.Errorf("P2.1: More(%#08x, %x) is %#08x, not %#08x", s, b, got, want)
		}
	}
}

func TestManyBytes(t *testing.T) {
	n := numbers(22)
	for _, b := range [][]byte{n.text(1<<20 + 3), make([]byte, 1<<20), bytes.Repeat([]byte{255}, 65537)} {
		if got, want := sum.Of(b), crc32.ChecksumIEEE(b); got != want {
			t.Errorf("P2.1: Of %d bytes is %#08x, not %#08x", len(b), got, want)
		}
	}
}

func TestBytesAreLeftAsTheyAre(t *testing.T) {
	whole := upTo(64)
	want := sum.More(7, slices.Clone(whole[16:32]))
	if got := sum.More(7, whole[16:32]); got != want {
		t.Errorf("P2.1: a piece of a text has the sum %#08x, a copy of it %#08x", got, want)
	}
	sum.Of(whole[16:32])
	if !bytes.Equal(whole, upTo(64)) {
		t.Errorf("P2.1: the text, or what is around it, is %x behind its sum", whole)
	}
}

func TestNothingIsKept(t *testing.T) {
	b := []byte("123456789")
	sum.Of(b)
	sum.More(5, b)
	clear(b)
	if got, want := sum.Of(b), byWords(0, make([]byte, 9)); got != want {
		t.Errorf("P2.1: a text changed in its place has the sum %#08x, not %#08x", got, want)
	}
	if got := sum.Of([]byte("123456789")); got != 0xcbf43926 {
		t.Errorf("P2.1: behind other calls the sum of 123456789 is %#08x", got)
	}
}

func TestSumsAtOneTime(t *testing.T) {
	l := texts()
	got := make([]uint32, len(l))
	var all sync.WaitGroup
	for i, b := range l {
		all.Go(func() { got[i] = sum.Of(b) })
	}
	all.Wait()
	for i, b := range l {
		if want := byWords(0, b); got[i] != want {
			t.Errorf("P2.1: beside other calls Of(%x) is %#08x, not %#08x", b, got[i], want)
		}
	}
}

func TestPartsGoOn(t *testing.T) {
	for _, b := range texts() {
		whole := sum.Of(b)
		for cut := 0; cut <= len(b); cut++ {
			if got := sum.More(sum.Of(b[:cut]), b[cut:]); got != whole {
				t.Errorf("P2.2: %x cut at %d has the sum %#08x, not %#08x", b, cut, got, whole)
			}
		}
	}
}

func TestPartsGoOnFromAnySum(t *testing.T) {
	n := numbers(23)
	b := n.text(40)
	for _, s := range starts {
		whole := sum.More(s, b)
		for cut := 0; cut <= len(b); cut++ {
			if got := sum.More(sum.More(s, b[:cut]), b[cut:]); got != whole {
				t.Errorf("P2.2: from %#08x, %x cut at %d has the sum %#08x, not %#08x", s, b, cut, got, whole)
			}
		}
	}
}

func TestManyParts(t *testing.T) {
	for _, b := range texts() {
		one := uint32(0)
		for i := range b {
			one = sum.More(one, b[i:i+1])
		}
		if want := sum.Of(b); one != want {
			t.Errorf("P2.2: %x byte by byte has the sum %#08x, not %#08x", b, one, want)
		}
		for size := 2; size <= 9; size++ {
			s := uint32(0)
			for part := range slices.Chunk(b, size) {
				s = sum.More(s, part)
			}
			if want := sum.Of(b); s != want {
				t.Errorf("P2.2: %x by parts of %d has the sum %#08x, not %#08x", b, size, s, want)
			}
		}
	}
}

// turned is a copy of the text, in which from a bit on those bits are turned that the pattern has.
func turned(b []byte, from int, pattern uint32) []byte {
	b = slices.Clone(b)
	for i := range 32 {
		if pattern>>i&1 == 1 {
			b[(from+i)/8] ^= 1 << ((from + i) % 8)
		}
	}
	return b
}

// patterns are some that reach over just as many bits: all of them, if they are few.
func patterns(width int, n *numbers) []uint32 {
	first, last := uint32(1), uint32(1)<<(width-1)
	full := last | (last - 1)
	var l []uint32
	if width <= 8 {
		for p := first | last; p <= full; p += 2 {
			l = append(l, p|last)
		}
		return l
	}
	l = append(l, first|last, full, full&0xaaaaaaaa|first|last, full&0x55555555|first|last)
	for range 12 {
		l = append(l, uint32(n.next())&full|first|last)
	}
	return l
}

func TestTurnedBitsChangeTheSum(t *testing.T) {
	n := numbers(24)
	for _, length := range []int{1, 2, 3, 4, 5, 6, 9, 16} {
		for _, b := range [][]byte{make([]byte, length), bytes.Repeat([]byte{255}, length), n.text(length)} {
			want := sum.Of(b)
			for width := 1; width <= min(32, 8*length); width++ {
				for from := 0; from+width <= 8*length; from++ {
					for _, p := range patterns(width, &n) {
						if other := turned(b, from, p); sum.Of(other) == want {
							t.Fatalf("P2.3: %x and %x both have the sum %#08x", b, other, want)
						}
					}
				}
			}
		}
	}
}

func TestFirstAndLastBit(t *testing.T) {
	for _, b := range texts() {
		if len(b) == 0 {
			continue
		}
		first, last := turned(b, 0, 1), turned(b, 8*len(b)-1, 1)
		if sum.Of(first) == sum.Of(b) {
			t.Errorf("P2.3: %x with its first bit turned has the same sum", b)
		}
		if sum.Of(last) == sum.Of(b) {
			t.Errorf("P2.3: %x with its last bit turned has the same sum", b)
		}
	}
}

func TestShortTextsHaveUnlikeSums(t *testing.T) {
	seen := make(map[uint32]int)
	for x := range 1 << 16 {
		s := sum.Of([]byte{byte(x), byte(x >> 8)})
		if other, there := seen[s]; there {
			t.Fatalf("P2.3: the texts of two bytes %#04x and %#04x both have the sum %#08x", other, x, s)
		}
		seen[s] = x
	}
	clear(seen)
	for x := range 256 {
		s := sum.Of([]byte{byte(x)})
		if other, there := seen[s]; there {
			t.Fatalf("P2.3: the bytes %d and %d both have the sum %#08x", other, x, s)
		}
		seen[s] = x
	}
}

// What a turned bit does to the sum is the same whatever else is turned. So no pattern of a row of bits leaves the sum as
// it is, if what its single bits do can't be put together to nothing.
func TestNoPatternOfARowLeavesTheSum(t *testing.T) {
	for _, length := range []int{4, 5, 12, 64} {
		n := numbers(length)
		b := n.text(length)
		for from := 0; from+32 <= 8*length; from++ {
			if rank := rankOfRow(b, from); rank != 32 {
				t.Errorf("P2.3: in %x from bit %d on some pattern leaves the sum: rank %d", b, from, rank)
			}
		}
	}
}

// rankOfRow is how many of the changes of the sum by each of 32 bits in a row can't be put together from the others.
func rankOfRow(b []byte, from int) int {
	var byTop [32]uint32
	rank := 0
	for i := range 32 {
		change := sum.Of(b) ^ sum.Of(turned(b, from+i, 1))
		for top := 31; top >= 0 && change != 0; top-- {
			if change>>top&1 == 0 {
				continue
			}
			if byTop[top] == 0 {
				byTop[top] = change
				rank++
				break
			}
			change ^= byTop[top]
		}
	}
	return rank
}

func TestChangesOfBitsAddUp(t *testing.T) {
	n := numbers(26)
	for range 200 {
		b := n.text(int(n.next()%40) + 5)
		from := int(n.next() % uint64(8*len(b)-31))
		p, q := uint32(n.next()), uint32(n.next())
		changeOf := func(pattern uint32) uint32 { return sum.Of(b) ^ sum.Of(turned(b, from, pattern)) }
		if changeOf(p)^changeOf(q) != changeOf(p^q) {
			t.Errorf("P2.3: in %x from bit %d on what %#08x and %#08x do to the sum doesn't add up", b, from, p, q)
		}
	}
}
