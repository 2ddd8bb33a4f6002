package num_test

import (
	"bytes"
	"encoding/binary"
	"math"
	"math/big"
	"slices"
	"strings"
	"sync"
	"testing"

	"confluence/api"
	"confluence/num"
)

// numbers is a row of numbers that is the same each time.
type numbers uint64

func (n *numbers) next() uint64 {
	*n = *n*6364136223846793005 + 1442695040888963407
	x := uint64(*n)
	return (x ^ x>>29) * 0x9e3779b97f4a7c15
}

func (n *numbers) text(length int) []byte {
	b := make([]byte, length)
	for i := range b {
		b[i] = byte(n.next() >> 17)
	}
	return b
}

// ofAnyLength is a number of few bits as often as one of many.
func (n *numbers) ofAnyLength() uint64 { return n.next() >> (n.next() >> 11 % 64) }

// sample is the numbers that the tests go through: all powers of two with those next to them, and some between.
func sample() []uint64 {
	l := []uint64{0, 100, 127, 128, 129, 255, 256, 257, 258, 300, 16383, 16384, 65535, 65536, math.MaxInt64, math.MaxUint64}
	for bit := range 64 {
		power := uint64(1) << bit
		l = append(l, power-1, power, power+1, ^power, -power)
	}
	n := numbers(3)
	for range 300 {
		l = append(l, n.ofAnyLength())
	}
	return l
}

// behind is what may stand behind what is read: nothing, and bytes that would go on with it or spoil it.
func behind() []string {
	return []string{"", "\x00", "\x01", "\x7f", "\x80", "\xff", "\x00\x00\x00", "\x80\x00", "\x80\x01", strings.Repeat("\x00", 12), strings.Repeat("\xff", 12), "abc"}
}

// badWidths are those below 1 and above 8.
var badWidths = []int{math.MinInt, math.MinInt32, -64, -9, -8, -2, -1, 0, 9, 10, 16, 64, 256, math.MaxInt32, math.MaxInt}

// badLimits are those below 0.
var badLimits = []int{-1, -2, -4, -128, math.MinInt32, math.MinInt}

func wantBytes(t *testing.T, what string, got []byte, e api.Errno, want string) {
	t.Helper()
	if string(got) != want || e != api.OK {
		t.Errorf("%s is %x with error %d, not %x", what, got, e, want)
	}
}

func wantNoBytes(t *testing.T, what string, got []byte, e, want api.Errno) {
	t.Helper()
	if e != want {
		t.Errorf("%s is %x with error %d, not error %d", what, got, e, want)
	}
	if len(got) != 0 {
		t.Errorf("%s has %x beside error %d (R5)", what, got, e)
	}
}

func wantFixed(t *testing.T, promise string, b []byte, width int, want uint64) {
	t.Helper()
	if n, e := num.TakeFixed(b, width); n != want || e != api.OK {
		t.Errorf("%s: TakeFixed(%x, %d) is %d with error %d, not %d", promise, b, width, n, e, want)
	}
}

func wantNoFixed(t *testing.T, promise string, b []byte, width int, want api.Errno) {
	t.Helper()
	if n, e := num.TakeFixed(b, width); n != 0 || e != want {
		t.Errorf("%s: TakeFixed(%x, %d) is %d with error %d, not 0 with error %d", promise, b, width, n, e, want)
	}
}

func wantShortNumber(t *testing.T, promise string, b []byte, want uint64, size int) {
	t.Helper()
	if n, got, e := num.TakeUvar(b); n != want || got != size || e != api.OK {
		t.Errorf("%s: TakeUvar(%x) is %d of %d bytes with error %d, not %d of %d", promise, b, n, got, e, want, size)
	}
}

func wantNoShortNumber(t *testing.T, promise string, b []byte, want api.Errno) {
	t.Helper()
	if n, size, e := num.TakeUvar(b); n != 0 || size != 0 || e != want {
		t.Errorf("%s: TakeUvar(%x) is %d of %d bytes with error %d, not zeros with error %d", promise, b, n, size, e, want)
	}
}

func wantText(t *testing.T, promise string, b []byte, most int, want string, size int) {
	t.Helper()
	if s, got, e := num.TakeText(b, most); s != want || got != size || e != api.OK {
		t.Errorf("%s: TakeText(%x, %d) is %q of %d bytes with error %d, not %q of %d", promise, b, most, s, got, e, want, size)
	}
}

func wantNoText(t *testing.T, promise string, b []byte, most int, want api.Errno) {
	t.Helper()
	if s, size, e := num.TakeText(b, most); s != "" || size != 0 || e != want {
		t.Errorf("%s: TakeText(%x, %d) is %q of %d bytes with error %d, not zeros with error %d", promise, b, most, s, size, e, want)
	}
}

// fixed, short and text are what is written where no error may be.
func fixed(t *testing.T, n uint64, width int) []byte {
	t.Helper()
	b, e := num.Fixed(n, width)
	if e != api.OK {
		t.Fatalf("P3.1: Fixed(%d, %d) is error %d", n, width, e)
	}
	return b
}

func text(t *testing.T, s string, most int) []byte {
	t.Helper()
	b, e := num.Text(s, most)
	if e != api.OK {
		t.Fatalf("P3.1: Text of %d bytes with limit %d is error %d", len(s), most, e)
	}
	return b
}

// shortLength is how many bytes a short number needs: one for each seven of its bits, and one at least.
func shortLength(n uint64) int {
	length := 1
	for n > 127 {
		n /= 128
		length++
	}
	return length
}

func TestFixedKnown(t *testing.T) {
	for _, c := range []struct {
		n     uint64
		width int
		want  string
	}{
		{258, 2, "\x01\x02"},
		{0, 1, "\x00"},
		{0, 8, "\x00\x00\x00\x00\x00\x00\x00\x00"},
		{1, 1, "\x01"},
		{1, 3, "\x00\x00\x01"},
		{255, 1, "\xff"},
		{255, 2, "\x00\xff"},
		{256, 2, "\x01\x00"},
		{256, 4, "\x00\x00\x01\x00"},
		{65535, 2, "\xff\xff"},
		{65536, 3, "\x01\x00\x00"},
		{0x0102030405060708, 8, "\x01\x02\x03\x04\x05\x06\x07\x08"},
		{0x01020304050607, 7, "\x01\x02\x03\x04\x05\x06\x07"},
		{0x010203040506, 7, "\x00\x01\x02\x03\x04\x05\x06"},
		{1 << 63, 8, "\x80\x00\x00\x00\x00\x00\x00\x00"},
		{math.MaxUint64, 8, "\xff\xff\xff\xff\xff\xff\xff\xff"},
		{math.MaxUint64 - 1, 8, "\xff\xff\xff\xff\xff\xff\xff\xfe"},
	} {
		b, e := num.Fixed(c.n, c.width)
		wantBytes(t, "P3.1: Fixed", b, e, c.want)
		wantFixed(t, "P3.1", []byte(c.want), c.width, c.n)
	}
}

func TestFixedWidthsThatMayNotBe(t *testing.T) {
	for _, width := range badWidths {
		for _, n := range []uint64{0, 1, 255, 256, math.MaxUint64} {
			b, e := num.Fixed(n, width)
			wantNoBytes(t, "P3.1: Fixed with such a width", b, e, api.ErrArg)
		}
		for _, b := range [][]byte{nil, {}, {1}, make([]byte, 8), make([]byte, 300)} {
			wantNoFixed(t, "P3.1", b, width, api.ErrArg)
		}
	}
}

func TestFixedJustFits(t *testing.T) {
	for width := 1; width <= 8; width++ {
		greatest := uint64(math.MaxUint64) >> (64 - 8*width)
		b, e := num.Fixed(greatest, width)
		wantBytes(t, "P3.1: Fixed of the greatest that fits", b, e, strings.Repeat("\xff", width))
		if width == 8 {
			continue
		}
		for _, n := range []uint64{greatest + 1, greatest + 2, 2*greatest + 1, 2*greatest + 2, 1 << 63, math.MaxUint64} {
			b, e := num.Fixed(n, width)
			wantNoBytes(t, "P3.1: Fixed of a number that is too great", b, e, api.ErrLong)
		}
		b, e = num.Fixed(greatest+1, width+1)
		wantBytes(t, "P3.1: Fixed with one byte more", b, e, "\x01"+strings.Repeat("\x00", width))
	}
}

func TestFixedOfEachWidth(t *testing.T) {
	for _, n := range sample() {
		whole := binary.BigEndian.AppendUint64(nil, n)
		for width := 1; width <= 8; width++ {
			b, e := num.Fixed(n, width)
			if strings.Trim(string(whole[:8-width]), "\x00") != "" {
				wantNoBytes(t, "P3.1: Fixed of a number that is too great", b, e, api.ErrLong)
				continue
			}
			wantBytes(t, "P3.1: Fixed", b, e, string(whole[8-width:]))
		}
	}
}

func TestTakeFixedOfEachLength(t *testing.T) {
	n := numbers(31)
	for length := range 20 {
		b := n.text(length)
		for width := 1; width <= 8; width++ {
			if length < width {
				wantNoFixed(t, "P3.1", b, width, api.ErrShort)
				continue
			}
			wantFixed(t, "P3.1", b, width, new(big.Int).SetBytes(b[:width]).Uint64())
		}
	}
}

func TestTakeFixedOfNoBytes(t *testing.T) {
	for width := 1; width <= 8; width++ {
		for _, none := range [][]byte{nil, {}, make([]byte, 0, 16), []byte("abc")[3:]} {
			wantNoFixed(t, "P3.4", none, width, api.ErrShort)
		}
	}
}

func TestFixedIsReadBack(t *testing.T) {
	for _, n := range sample() {
		for width := 1; width <= 8; width++ {
			b, e := num.Fixed(n, width)
			if e != api.OK {
				continue
			}
			for _, more := range behind() {
				wantFixed(t, "P3.2", append(slices.Clone(b), more...), width, n)
			}
		}
	}
}

func TestFixedHasOneForm(t *testing.T) {
	for x := range 1 << 16 {
		b := []byte{byte(x >> 8), byte(x)}
		for width := 1; width <= 2; width++ {
			n, _ := num.TakeFixed(b, width)
			if again := fixed(t, n, width); !bytes.Equal(again, b[:width]) {
				t.Fatalf("P3.3: %x is read as %d, that is written as %x", b[:width], n, again)
			}
		}
	}
	r := numbers(33)
	for range 3000 {
		b := r.text(8)
		for width := 3; width <= 8; width++ {
			n, _ := num.TakeFixed(b, width)
			if again := fixed(t, n, width); !bytes.Equal(again, b[:width]) {
				t.Fatalf("P3.3: %x is read as %d, that is written as %x", b[:width], n, again)
			}
		}
	}
}

func TestFixedCutOff(t *testing.T) {
	for _, n := range sample() {
		for width := 1; width <= 8; width++ {
			b, e := num.Fixed(n, width)
			for cut := 0; e == api.OK && cut < len(b); cut++ {
				wantNoFixed(t, "P3.4", b[:cut], width, api.ErrShort)
				wantNoFixed(t, "P3.4", slices.Clone(b[:cut]), width, api.ErrShort)
			}
		}
	}
}

func TestUvarKnown(t *testing.T) {
	for _, c := range []struct {
		n    uint64
		want string
	}{
		{0, "\x00"},
		{1, "\x01"},
		{2, "\x02"},
		{64, "\x40"},
		{127, "\x7f"},
		{128, "\x80\x01"},
		{129, "\x81\x01"},
		{255, "\xff\x01"},
		{256, "\x80\x02"},
		{300, "\xac\x02"},
		{16383, "\xff\x7f"},
		{16384, "\x80\x80\x01"},
		{1<<21 - 1, "\xff\xff\x7f"},
		{1 << 21, "\x80\x80\x80\x01"},
		{1<<28 - 1, "\xff\xff\xff\x7f"},
		{1 << 28, "\x80\x80\x80\x80\x01"},
		{1<<35 - 1, "\xff\xff\xff\xff\x7f"},
		{1 << 35, "\x80\x80\x80\x80\x80\x01"},
		{1<<42 - 1, "\xff\xff\xff\xff\xff\x7f"},
		{1 << 42, "\x80\x80\x80\x80\x80\x80\x01"},
		{1<<49 - 1, "\xff\xff\xff\xff\xff\xff\x7f"},
		{1 << 49, "\x80\x80\x80\x80\x80\x80\x80\x01"},
		{1<<56 - 1, "\xff\xff\xff\xff\xff\xff\xff\x7f"},
		{1 << 56, "\x80\x80\x80\x80\x80\x80\x80\x80\x01"},
		{1<<63 - 1, "\xff\xff\xff\xff\xff\xff\xff\xff\x7f"},
		{1 << 63, "\x80\x80\x80\x80\x80\x80\x80\x80\x80\x01"},
		{math.MaxUint64 - 1, "\xfe\xff\xff\xff\xff\xff\xff\xff\xff\x01"},
		{math.MaxUint64, "\xff\xff\xff\xff\xff\xff\xff\xff\xff\x01"},
	} {
		wantBytes(t, "P3.1: Uvar", num.Uvar(c.n), api.OK, c.want)
		wantShortNumber(t, "P3.1", []byte(c.want), c.n, len(c.want))
	}
}

func TestUvarOfSample(t *testing.T) {
	for _, n := range sample() {
		b := num.Uvar(n)
		wantBytes(t, "P3.1: Uvar", b, api.OK, string(binary.AppendUvarint(nil, n)))
		if len(b) != shortLength(n) {
			t.Errorf("P3.1: Uvar(%d) has %d bytes, and needs %d", n, len(b), shortLength(n))
		}
	}
}

func TestUvarOfSmallNumbers(t *testing.T) {
	for n := range uint64(1 << 15) {
		wantBytes(t, "P3.1: Uvar", num.Uvar(n), api.OK, string(binary.AppendUvarint(nil, n)))
		wantShortNumber(t, "P3.1", num.Uvar(n), n, shortLength(n))
	}
}

func TestTakeUvarWrongForms(t *testing.T) {
	nine := strings.Repeat("\x80", 9)
	full := strings.Repeat("\xff", 9)
	for _, b := range []string{
		"\x80\x00",
		"\x80\x00\x01",
		"\x81\x00",
		"\xff\x00",
		"\x80\x80\x00",
		"\xff\xff\x00",
		"\x80\x00\x80\x01",
		nine + "\x00",
		full + "\x00",
		nine + "\x02",
		full + "\x02",
		nine + "\x03",
		nine + "\x7f",
		full + "\x7f",
		nine + "\x80",
		nine + "\x81",
		nine + "\x82",
		nine + "\xff",
		full + "\x80",
		full + "\x81",
		full + "\xff",
		nine + "\x80\x01",
		nine + "\x81\x01",
		full + "\xff\x01",
		full + "\xff\x00",
		strings.Repeat("\x80", 20),
		strings.Repeat("\xff", 1000),
	} {
		wantNoShortNumber(t, "P3.1", []byte(b), api.ErrForm)
	}
	for length := 2; length <= 10; length++ {
		for _, lead := range []string{"\x80", "\x81", "\xff"} {
			wantNoShortNumber(t, "P3.3", []byte(strings.Repeat(lead, length-1)+"\x00"), api.ErrForm)
		}
	}
	for c := 2; c < 256; c++ {
		wantNoShortNumber(t, "P3.3", append([]byte(nine), byte(c)), api.ErrForm)
		wantNoShortNumber(t, "P3.3", append([]byte(full), byte(c), 1), api.ErrForm)
	}
}

func TestTakeUvarEndsAtTheFirstFullNumber(t *testing.T) {
	for _, c := range []struct {
		b    string
		n    uint64
		size int
	}{
		{"\x00\x00", 0, 1},
		{"\x00\x80", 0, 1},
		{"\x00\xff\xff", 0, 1},
		{"\x01\x00", 1, 1},
		{"\x7f\x80\x00", 127, 1},
		{"\x80\x01\x00", 128, 2},
		{"\x80\x80\x01\x80", 16384, 3},
		{strings.Repeat("\x80", 8) + "\x01\x00", 1 << 56, 9},
		{strings.Repeat("\x80", 8) + "\x7f\xff", 127 << 56, 9},
		{strings.Repeat("\x80", 9) + "\x01\x00", 1 << 63, 10},
		{strings.Repeat("\xff", 9) + "\x01\xff", math.MaxUint64, 10},
	} {
		wantShortNumber(t, "P3.1", []byte(c.b), c.n, c.size)
	}
}

func TestTakeUvarOfNoBytes(t *testing.T) {
	for _, none := range [][]byte{nil, {}, make([]byte, 0, 16), []byte("abc")[3:]} {
		wantNoShortNumber(t, "P3.4", none, api.ErrShort)
	}
}

// takeByWords is TakeUvar as the chapter tells it, with a number that has room for any bits.
func takeByWords(b []byte) (uint64, int, api.Errno) {
	n, factor := new(big.Int), big.NewInt(1)
	for i, c := range b {
		if c == 0 && i > 0 {
			return 0, 0, api.ErrForm
		}
		if c > 1 && i == 9 {
			return 0, 0, api.ErrForm
		}
		n.Add(n, new(big.Int).Mul(factor, big.NewInt(int64(c%128))))
		factor.Mul(factor, big.NewInt(128))
		if c < 128 {
			return n.Uint64(), i + 1, api.OK
		}
	}
	return 0, 0, api.ErrShort
}

func wantAsTheWordsTell(t *testing.T, b []byte) {
	t.Helper()
	n, size, e := takeByWords(b)
	if e != api.OK {
		wantNoShortNumber(t, "P3.1", b, e)
		return
	}
	wantShortNumber(t, "P3.1", b, n, size)
	if again := num.Uvar(n); !bytes.Equal(again, b[:size]) {
		t.Errorf("P3.3: %x is read as %d, that is written as %x", b[:size], n, again)
	}
}

func TestTakeUvarOfEachTwoBytes(t *testing.T) {
	for x := range 256 {
		wantAsTheWordsTell(t, []byte{byte(x)})
		for y := range 256 {
			wantAsTheWordsTell(t, []byte{byte(x), byte(y)})
		}
	}
}

func TestTakeUvarOfFewKindsOfBytes(t *testing.T) {
	kinds := []byte{0, 1, 2, 127, 128, 129, 255}
	for _, lead := range []int{0, 1, 5, 6, 7, 8, 9, 10} {
		for x := range 7 * 7 * 7 * 7 {
			b := bytes.Repeat([]byte{0x95}, lead)
			for ; x > 0; x /= 7 {
				b = append(b, kinds[x%7])
			}
			wantAsTheWordsTell(t, b)
		}
	}
}

func TestTakeUvarOfAnyBytes(t *testing.T) {
	r := numbers(34)
	for range 20000 {
		b := r.text(int(r.next() >> 20 % 14))
		for i := range b {
			if r.next()>>9%8 != 0 {
				b[i] |= 128
			}
		}
		wantAsTheWordsTell(t, b)
	}
}

// TestOnlyOneOfAllShortTextsIsRead goes through all texts of up to three bytes.
func TestOnlyOneOfAllShortTextsIsRead(t *testing.T) {
	seen := make([]int, 1<<21)
	var b [3]byte
	for x := range 1 << 24 {
		b = [3]byte{byte(x), byte(x >> 8), byte(x >> 16)}
		n, size, e := num.TakeUvar(b[:])
		if e != api.OK {
			continue
		}
		if n >= 1<<21 || size != shortLength(n) {
			t.Fatalf("P3.3: %x is read as %d of %d bytes", b, n, size)
		}
		form := 1 + x&(1<<(8*size)-1)
		if seen[n] != 0 && seen[n] != form {
			t.Fatalf("P3.3: %d is read from %x, and from other bytes too", n, b[:size])
		}
		seen[n] = form
	}
	if n := slices.Index(seen, 0); n >= 0 {
		t.Errorf("P3.3: %d is read from no text of three bytes", n)
	}
}

func TestUvarIsReadBack(t *testing.T) {
	for _, n := range sample() {
		b := num.Uvar(n)
		for _, more := range behind() {
			wantShortNumber(t, "P3.2", append(slices.Clone(b), more...), n, len(b))
		}
	}
}

func TestUvarCutOff(t *testing.T) {
	for _, n := range sample() {
		b := num.Uvar(n)
		for cut := range b {
			wantNoShortNumber(t, "P3.4", b[:cut], api.ErrShort)
			wantNoShortNumber(t, "P3.4", slices.Clone(b[:cut]), api.ErrShort)
		}
	}
}

// told is one of the numbers of a row: where it begins, and its value.
type told struct {
	begin int
	n     uint64
}

// row is all that a row tells.
func row(b []byte) []told {
	var l []told
	for begin, n := range num.Uvars(b) {
		l = append(l, told{begin, n})
	}
	return l
}

func wantRow(t *testing.T, b []byte, want []told) {
	t.Helper()
	if got := row(b); !slices.Equal(got, want) {
		t.Errorf("P3.1: Uvars(%x) tells %v, not %v", b, got, want)
	}
}

func TestUvarsKnown(t *testing.T) {
	nine := strings.Repeat("\x80", 9)
	for _, c := range []struct {
		b    string
		want []told
	}{
		{"", nil},
		{"\x00", []told{{0, 0}}},
		{"\x00\x00\x00", []told{{0, 0}, {1, 0}, {2, 0}}},
		{"\x05", []told{{0, 5}}},
		{"\xac\x02", []told{{0, 300}}},
		{"\x01\xac\x02\x00\x7f\x80\x01", []told{{0, 1}, {1, 300}, {3, 0}, {4, 127}, {5, 128}}},
		{nine + "\x01" + nine + "\x01\x03", []told{{0, 1 << 63}, {10, 1 << 63}, {20, 3}}},
		{"\x80", nil},
		{"\x80\x00", nil},
		{"\x80\x00\x01\x02", nil},
		{nine + "\x02\x01", nil},
		{nine + "\x80\x01", nil},
		{"\x01\x80", []told{{0, 1}}},
		{"\x01\x02\x80\x80", []told{{0, 1}, {1, 2}}},
		{"\x01\x80\x00\x05\x06", []told{{0, 1}}},
		{"\xac\x02\x81\x00\x05", []told{{0, 300}}},
		{"\x07" + nine + "\x02\x05", []told{{0, 7}}},
		{"\x07" + nine, []told{{0, 7}}},
		{"\x00\x00\xff\x00\x00", []told{{0, 0}, {1, 0}}},
	} {
		wantRow(t, []byte(c.b), c.want)
	}
}

func TestUvarsOfNoBytes(t *testing.T) {
	for _, none := range [][]byte{nil, {}, make([]byte, 0, 16), []byte("abc")[3:]} {
		wantRow(t, none, nil)
	}
}

// rowOf is some numbers written one behind the other, and what a row of them tells.
func rowOf(l []uint64) ([]byte, []told) {
	var b []byte
	var want []told
	for _, n := range l {
		want = append(want, told{len(b), n})
		b = append(b, num.Uvar(n)...)
	}
	return b, want
}

func TestUvarsOfWhatIsWritten(t *testing.T) {
	b, want := rowOf(sample())
	wantRow(t, b, want)
	r := numbers(35)
	for count := range 30 {
		l := make([]uint64, count)
		for i := range l {
			l[i] = r.ofAnyLength()
		}
		b, want := rowOf(l)
		for _, bad := range []string{"", "\x80", "\xff\xff", "\x80\x00", "\x80\x00\x01", strings.Repeat("\xff", 9) + "\x02\x00"} {
			if got := row(append(slices.Clone(b), bad...)); !slices.Equal(got, want) {
				t.Errorf("P3.2: the row %v with %x behind it tells %v", want, bad, got)
			}
		}
	}
}

func TestUvarsCutOff(t *testing.T) {
	r := numbers(36)
	l := make([]uint64, 20)
	for i := range l {
		l[i] = r.ofAnyLength()
	}
	b, all := rowOf(l)
	for cut := range len(b) + 1 {
		whole := 0
		for whole < len(all) && all[whole].begin+shortLength(all[whole].n) <= cut {
			whole++
		}
		if got := row(b[:cut]); !slices.Equal(got, all[:whole]) {
			t.Errorf("P3.4: the row cut off at %d tells %v, not %v", cut, got, all[:whole])
		}
	}
}

func TestUvarsLeftEarly(t *testing.T) {
	b, all := rowOf([]uint64{1, 300, 0, math.MaxUint64, 5, 128})
	for most := 1; most <= len(all); most++ {
		var got []told
		for begin, n := range num.Uvars(b) {
			got = append(got, told{begin, n})
			if len(got) == most {
				break
			}
		}
		if !slices.Equal(got, all[:most]) {
			t.Errorf("R7: left behind %d numbers, the row tells %v, not %v", most, got, all[:most])
		}
	}
}

func TestUvarsAskNoMoreWhenLeft(t *testing.T) {
	b, all := rowOf([]uint64{1, 300, 0, 5})
	for most := 1; most <= len(all); most++ {
		calls := 0
		num.Uvars(b)(func(int, uint64) bool {
			calls++
			return calls < most
		})
		if calls != most {
			t.Errorf("R7: a row that is left behind %d numbers tells %d", most, calls)
		}
	}
}

func TestUvarsRangedOverAgain(t *testing.T) {
	b, all := rowOf([]uint64{1, 300, 0, math.MaxUint64, 5, 128})
	numbersOfB := num.Uvars(append(b, 0x80))
	for most := 1; most <= len(all)+1; most++ {
		seen := 0
		for begin, n := range numbersOfB {
			if got := (told{begin, n}); got != all[seen] {
				t.Fatalf("R7: ranged over again, number %d of the row is %v, not %v", seen, got, all[seen])
			}
			seen++
			if seen == most {
				break
			}
		}
		if seen != min(most, len(all)) {
			t.Errorf("R7: ranged over again, the row tells %d numbers, not %d", seen, min(most, len(all)))
		}
	}
}

func TestUvarsRangedOverWithinItself(t *testing.T) {
	b, all := rowOf([]uint64{1, 300, 0, 128})
	numbersOfB := num.Uvars(b)
	var got, want []told
	for begin, n := range numbersOfB {
		got = append(got, told{begin, n})
		for begin, n := range numbersOfB {
			got = append(got, told{begin, n})
		}
	}
	for _, one := range all {
		want = append(append(want, one), all...)
	}
	if !slices.Equal(got, want) {
		t.Errorf("R7: ranged over within itself, the row tells %v, not %v", got, want)
	}
}

func TestUvarsKeepNothing(t *testing.T) {
	b, all := rowOf([]uint64{1, 300, 0, 128})
	numbersOfB := num.Uvars(b)
	for i := range b {
		b[i] = 0x80
	}
	var got []told
	for begin, n := range numbersOfB {
		got = append(got, told{begin, n})
	}
	if !slices.Equal(got, all) {
		t.Errorf("R3: with its bytes changed behind the call, the row tells %v, not %v", got, all)
	}
}

func TestTextKnown(t *testing.T) {
	for _, c := range []struct {
		s    string
		most int
		want string
	}{
		{"ab", 4, "\x02\x61\x62"},
		{"ab", 2, "\x02\x61\x62"},
		{"", 0, "\x00"},
		{"", 4, "\x00"},
		{"a", 1, "\x01a"},
		{"\x00", 1, "\x01\x00"},
		{"\x00\x80\xff", 3, "\x03\x00\x80\xff"},
		{"\xc3\xa4", 2, "\x02\xc3\xa4"},
		{"\xe2\x82\xac", 16, "\x03\xe2\x82\xac"},
		{strings.Repeat("x", 127), 127, "\x7f" + strings.Repeat("x", 127)},
		{strings.Repeat("x", 128), 128, "\x80\x01" + strings.Repeat("x", 128)},
		{strings.Repeat("x", 300), math.MaxInt, "\xac\x02" + strings.Repeat("x", 300)},
	} {
		b, e := num.Text(c.s, c.most)
		wantBytes(t, "P3.1: Text", b, e, c.want)
		wantText(t, "P3.1", []byte(c.want), c.most, c.s, len(c.want))
	}
}

func TestTextTooLong(t *testing.T) {
	for _, c := range []struct {
		s    string
		most int
	}{
		{"ab", 1}, {"ab", 0}, {"a", 0}, {"\x00", 0}, {"\xc3\xa4", 1}, {"\xe2\x82\xac", 2},
		{strings.Repeat("x", 17), 16}, {strings.Repeat("x", 65), 64}, {strings.Repeat("x", 128), 127}, {strings.Repeat("x", 1000), 999},
	} {
		b, e := num.Text(c.s, c.most)
		wantNoBytes(t, "P3.1: Text that is too long", b, e, api.ErrLong)
	}
}

func TestTextLimitsBelowZero(t *testing.T) {
	for _, most := range badLimits {
		for _, s := range []string{"", "a", strings.Repeat("x", 300)} {
			b, e := num.Text(s, most)
			wantNoBytes(t, "P3.1: Text with a limit below 0", b, e, api.ErrArg)
		}
		for _, b := range []string{"", "\x00", "\x01a", "\x02a", "\x80", "\x80\x00", "\x05", strings.Repeat("\xff", 12)} {
			wantNoText(t, "P3.1", []byte(b), most, api.ErrArg)
		}
		wantNoText(t, "P3.1", nil, most, api.ErrArg)
	}
}

func TestTextOfEachLength(t *testing.T) {
	r := numbers(37)
	for _, length := range []int{0, 1, 2, 15, 16, 17, 63, 64, 65, 126, 127, 128, 129, 255, 256, 16383, 16384, 16385, 65536, 1 << 20} {
		s := string(r.text(length))
		want := string(binary.AppendUvarint(nil, uint64(length))) + s
		for _, most := range []int{length, length + 1, 1 << 21, math.MaxInt} {
			b, e := num.Text(s, most)
			if string(b) != want || e != api.OK {
				t.Errorf("P3.1: Text of %d bytes with limit %d has %d bytes with error %d", length, most, len(b), e)
			}
			got, size, e := num.TakeText([]byte(want), most)
			if got != s || size != len(want) || e != api.OK {
				t.Errorf("P3.1: TakeText of %d bytes with limit %d has %d of %d with error %d", length, most, len(got), size, e)
			}
		}
		if length > 0 {
			b, e := num.Text(s, length-1)
			wantNoBytes(t, "P3.1: Text that is one byte too long", b, e, api.ErrLong)
			wantNoText(t, "P3.1", []byte(want), length-1, api.ErrLong)
		}
	}
}

func TestTakeTextErrors(t *testing.T) {
	nine := strings.Repeat("\xff", 9)
	for _, c := range []struct {
		b    string
		most int
		want api.Errno
	}{
		{"", 0, api.ErrShort},
		{"", 4, api.ErrShort},
		{"\x80", 4, api.ErrShort},
		{"\x80", 0, api.ErrShort},
		{nine, 4, api.ErrShort},
		{"\x80\x00", 4, api.ErrForm},
		{"\x80\x00ab", 0, api.ErrForm},
		{"\x81\x00a", 4, api.ErrForm},
		{nine + "\x02", 4, api.ErrForm},
		{nine + "\x80", 4, api.ErrForm},
		{"\x01", 0, api.ErrLong},
		{"\x01a", 0, api.ErrLong},
		{"\x03abc", 2, api.ErrLong},
		{"\x03", 2, api.ErrLong},
		{"\x03a", 2, api.ErrLong},
		{"\x7f", 126, api.ErrLong},
		{"\x80\x01", 127, api.ErrLong},
		{nine + "\x01", math.MaxInt, api.ErrLong},
		{nine + "\x01ab", 0, api.ErrLong},
		{strings.Repeat("\x80", 9) + "\x01", math.MaxInt, api.ErrLong},
		{strings.Repeat("\x80", 9) + "\x01abc", 3, api.ErrLong},
		{string(binary.AppendUvarint(nil, 1<<32)) + "abc", 3, api.ErrLong},
		{string(binary.AppendUvarint(nil, 1<<32+2)) + "ab", 2, api.ErrLong},
		{string(binary.AppendUvarint(nil, math.MaxInt)) + "ab", math.MaxInt - 1, api.ErrLong},
		{string(binary.AppendUvarint(nil, math.MaxInt)) + "ab", math.MaxInt, api.ErrShort},
		{string(binary.AppendUvarint(nil, math.MaxInt-1)) + "ab", math.MaxInt, api.ErrShort},
		{string(binary.AppendUvarint(nil, 1<<40)) + "ab", math.MaxInt, api.ErrShort},
		{"\x01", 1, api.ErrShort},
		{"\x01", 4, api.ErrShort},
		{"\x02a", 2, api.ErrShort},
		{"\x02a", 4, api.ErrShort},
		{"\x03ab", 3, api.ErrShort},
		{"\x80\x01" + strings.Repeat("x", 127), 128, api.ErrShort},
	} {
		wantNoText(t, "P3.1", []byte(c.b), c.most, c.want)
	}
	wantNoText(t, "P3.4", nil, 0, api.ErrShort)
	wantNoText(t, "P3.4", nil, 4, api.ErrShort)
}

func TestTakeTextLimits(t *testing.T) {
	for length := range 40 {
		s := strings.Repeat("k", length)
		b := append([]byte{byte(length)}, s...)
		for most := range 42 {
			if length > most {
				wantNoText(t, "P3.1", b, most, api.ErrLong)
				continue
			}
			wantText(t, "P3.1", b, most, s, length+1)
			wantText(t, "P3.1", append(b, 'k'), most, s, length+1)
		}
	}
}

func TestTextIsReadBack(t *testing.T) {
	r := numbers(38)
	for _, length := range []int{0, 1, 2, 3, 16, 64, 127, 128, 129, 300, 16384} {
		for _, s := range []string{string(r.text(length)), strings.Repeat("\x00", length), strings.Repeat("\xff", length)} {
			b := text(t, s, length)
			for _, more := range behind() {
				wantText(t, "P3.2", append(slices.Clone(b), more...), length, s, len(b))
			}
		}
	}
}

func TestTextsBehindOneAnother(t *testing.T) {
	l := []string{"ab", "", "\x00", "\x80", strings.Repeat("x", 200), "\xff\xff", "", "z"}
	var b []byte
	for _, s := range l {
		b = append(b, text(t, s, 200)...)
	}
	for _, want := range l {
		s, size, e := num.TakeText(b, 200)
		if s != want || e != api.OK {
			t.Fatalf("P3.2: TakeText is %q with error %d, not %q", s, e, want)
		}
		b = b[size:]
	}
	if len(b) != 0 {
		t.Errorf("P3.2: behind all texts there is %x", b)
	}
}

func TestTextHasOneForm(t *testing.T) {
	kinds := []byte{0, 1, 2, 3, 127, 128, 129, 255}
	for x := range 8 * 8 * 8 * 8 * 8 {
		b := []byte{kinds[x%8], kinds[x/8%8], kinds[x/64%8], kinds[x/512%8], kinds[x/4096]}
		s, size, e := num.TakeText(b, 3)
		if e != api.OK {
			continue
		}
		if again := text(t, s, 3); !bytes.Equal(again, b[:size]) {
			t.Fatalf("P3.3: %x is read as %q, that is written as %x", b[:size], s, again)
		}
	}
}

func TestTextCutOff(t *testing.T) {
	r := numbers(39)
	for _, length := range []int{0, 1, 2, 16, 64, 127, 128, 300, 16384} {
		b := text(t, string(r.text(length)), length)
		for cut := range b {
			wantNoText(t, "P3.4", b[:cut], length, api.ErrShort)
			wantNoText(t, "P3.4", slices.Clip(b[:cut]), math.MaxInt, api.ErrShort)
		}
	}
}

// callAll makes each of the calls that are handed bytes.
func callAll(b []byte) {
	for width := -1; width <= 9; width++ {
		num.TakeFixed(b, width)
	}
	num.TakeUvar(b)
	for _, most := range []int{-1, 0, 2, math.MaxInt} {
		num.TakeText(b, most)
	}
	row(b)
}

func TestBytesAreLeftAsTheyAre(t *testing.T) {
	for _, front := range []string{"", "\x00", "\x01\x02\x03", "\x02ab", "\x03a", "\x80", "\x80\x00", "\xac\x02\x05", strings.Repeat("\xff", 9) + "\x01\x02"} {
		around := "????" + front + "!!!!!!!!!!!!"
		whole := []byte(around)
		callAll(whole[4 : 4+len(front)])
		if string(whole) != around {
			t.Errorf("R3: %x with what is around it is %x behind the calls", around, whole)
		}
	}
}

func TestSpareRoomIsNotRead(t *testing.T) {
	for _, c := range []string{"", "\x80", "\x02a", "\xff\xff"} {
		b := append([]byte(c), strings.Repeat("\x01", 20)...)[:len(c)]
		wantNoFixed(t, "P3.4", b, len(c)+1, api.ErrShort)
		wantNoText(t, "P3.4", b, math.MaxInt, api.ErrShort)
	}
	for _, c := range []string{"", "\x80", "\xff\xff", strings.Repeat("\x80", 9)} {
		b := append([]byte(c), strings.Repeat("\x01", 20)...)[:len(c)]
		wantNoShortNumber(t, "P3.4", b, api.ErrShort)
		wantRow(t, b, nil)
	}
}

// spoil overwrites an answer with its spare room.
func spoil(b []byte) {
	b = b[:cap(b)]
	for i := range b {
		b[i] = 0xa5
	}
}

func TestAnswersAreNewMemory(t *testing.T) {
	for _, n := range sample() {
		spoil(num.Uvar(n))
		wantBytes(t, "R3: Uvar behind a spoilt answer", num.Uvar(n), api.OK, string(binary.AppendUvarint(nil, n)))
		spoil(fixed(t, n, 8))
		wantBytes(t, "R3: Fixed behind a spoilt answer", fixed(t, n, 8), api.OK, string(binary.BigEndian.AppendUint64(nil, n)))
	}
	for _, s := range []string{"", "a", "ab", strings.Repeat("x", 200)} {
		was := strings.Clone(s)
		first, second := text(t, s, 200), text(t, s, 200)
		spoil(first)
		wantBytes(t, "R3: Text beside a spoilt answer", second, api.OK, string(binary.AppendUvarint(nil, uint64(len(s))))+was)
		if s != was {
			t.Errorf("R3: a text is %q, and was %q", s, was)
		}
	}
}

func TestReadTextIsNewMemory(t *testing.T) {
	b := []byte("\x03abcdef")
	s, _, _ := num.TakeText(b, 16)
	spoil(b)
	if s != "abc" {
		t.Errorf("R3: with the bytes changed behind the call, the text is %q", s)
	}
}

func TestCallsAtOneTime(t *testing.T) {
	b, all := rowOf(sample())
	numbersOfB := num.Uvars(b)
	var got [8][]told
	var readers sync.WaitGroup
	for i := range got {
		readers.Go(func() {
			for begin, n := range numbersOfB {
				if one, size, e := num.TakeUvar(b[begin:]); one == n && size == shortLength(n) && e == api.OK {
					got[i] = append(got[i], told{begin, n})
				}
			}
		})
	}
	readers.Wait()
	for _, l := range got {
		if !slices.Equal(l, all) {
			t.Errorf("R2: beside others that range over it, the row tells %v", l)
		}
	}
}
