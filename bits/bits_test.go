package bits

import (
	"bytes"
	"math"
	"math/bits"
	"testing"
)

// The words that every test goes through: none, one and all of the bits, each end of the word, and mixtures.
var words = []uint64{
	0, 1, 2, 3, 0x7f, 0x80, 0xff, 0x1234, 0xabcd, 0xffff,
	1 << 31, 1<<32 - 1, 1 << 32, 1<<63 - 1, 1 << 63, 1<<63 | 1,
	math.MaxUint64, math.MaxUint64 - 1,
	0x5555555555555555, 0xaaaaaaaaaaaaaaaa, 0x0123456789abcdef, 0xfedcba9876543210,
}

// Numbers that are far outside of a word, where a sum or a shift might wrap round.
var far = []int{math.MinInt, math.MinInt + 1, math.MinInt32, -65, -64, -63, -8, -1, 64, 65, 127, 128, 256, math.MaxInt32, math.MaxInt - 1, math.MaxInt}

func places() []int {
	l := append([]int(nil), far...)
	for i := range 64 {
		l = append(l, i)
	}
	return l
}

func bit(v uint64, i int) bool {
	return v>>uint(i)%2 == 1
}

// plainField and plainPut go bit by bit, as the chapter's words do.
func plainField(v uint64, hi, lo int) uint64 {
	r := uint64(0)
	for i := lo; i <= hi; i++ {
		if bit(v, i) {
			r += 1 << uint(i-lo)
		}
	}
	return r
}

func plainPut(v uint64, hi, lo int, x uint64) uint64 {
	r := uint64(0)
	for i := range 64 {
		on := bit(v, i)
		if lo <= i && i <= hi {
			on = bit(x, i-lo)
		}
		if on {
			r += 1 << uint(i)
		}
	}
	return r
}

func inWord(hi, lo int) bool {
	return lo >= 0 && hi <= 63 && lo <= hi
}

func TestFieldExamples(t *testing.T) {
	for _, c := range []struct {
		v      uint64
		hi, lo int
		want   uint64
	}{
		{0xabcd, 11, 4, 0xbc},
		{0xabcd, 3, 0, 0xd},
		{0xabcd, 15, 12, 0xa},
		{0xabcd, 63, 16, 0},
		{0xfedcba9876543210, 63, 0, 0xfedcba9876543210},
		{0xfedcba9876543210, 63, 60, 0xf},
		{0xfedcba9876543210, 63, 32, 0xfedcba98},
		{1 << 63, 63, 63, 1},
		{1 << 63, 62, 0, 0},
		{1, 0, 0, 1},
		{2, 0, 0, 0},
		{math.MaxUint64, 62, 1, 1<<62 - 1},
		{math.MaxUint64, 64, 0, 0},
		{math.MaxUint64, 64, 64, 0},
		{math.MaxUint64, 63, -1, 0},
		{math.MaxUint64, -1, -1, 0},
		{math.MaxUint64, -1, 0, 0},
		{math.MaxUint64, 0, 1, 0},
		{math.MaxUint64, 62, 63, 0},
	} {
		if got := Field(c.v, c.hi, c.lo); got != c.want {
			t.Errorf("P1.1: Field(%#x, %d, %d) = %#x, want %#x", c.v, c.hi, c.lo, got, c.want)
		}
	}
}

func TestPutExamples(t *testing.T) {
	for _, c := range []struct {
		v      uint64
		hi, lo int
		x      uint64
		want   uint64
	}{
		{0xffff, 7, 4, 0, 0xff0f},
		{0xffff, 7, 4, 0xfff0, 0xff0f},
		{0, 7, 4, 0xa, 0xa0},
		{0, 7, 4, 0x1a, 0xa0},
		{0, 3, 0, 0x1f, 0xf},
		{0, 63, 0, 0xfedcba9876543210, 0xfedcba9876543210},
		{math.MaxUint64, 63, 0, 0, 0},
		{0, 63, 63, 1, 1 << 63},
		{0, 63, 63, 2, 0},
		{math.MaxUint64, 63, 63, 0, 1<<63 - 1},
		{math.MaxUint64, 0, 0, 0, math.MaxUint64 - 1},
		{0, 62, 1, math.MaxUint64, 1<<63 - 2},
		{7, 64, 0, 9, 7},
		{7, 64, 64, 9, 7},
		{7, 63, -1, 9, 7},
		{7, -1, -1, 9, 7},
		{7, -1, 0, 9, 7},
		{7, 1, 2, 9, 7},
		{7, 62, 63, 9, 7},
	} {
		if got := Put(c.v, c.hi, c.lo, c.x); got != c.want {
			t.Errorf("P1.1: Put(%#x, %d, %d, %#x) = %#x, want %#x", c.v, c.hi, c.lo, c.x, got, c.want)
		}
	}
}

func TestFieldEverywhere(t *testing.T) {
	for _, v := range words {
		for _, hi := range places() {
			for _, lo := range places() {
				want := uint64(0)
				if inWord(hi, lo) {
					want = plainField(v, hi, lo)
				}
				if got := Field(v, hi, lo); got != want {
					t.Fatalf("P1.1: Field(%#x, %d, %d) = %#x, want %#x", v, hi, lo, got, want)
				}
			}
		}
	}
}

func TestPutEverywhere(t *testing.T) {
	for n, v := range words {
		x := words[len(words)-1-n]
		for _, hi := range places() {
			for _, lo := range places() {
				want := v
				if inWord(hi, lo) {
					want = plainPut(v, hi, lo, x)
				}
				if got := Put(v, hi, lo, x); got != want {
					t.Fatalf("P1.1: Put(%#x, %d, %d, %#x) = %#x, want %#x", v, hi, lo, x, got, want)
				}
			}
		}
	}
}

func TestFieldReturnsWhatPutStored(t *testing.T) {
	for n, v := range words {
		x := words[len(words)-1-n]
		for hi := range 64 {
			for lo := range hi + 1 {
				want := plainField(x, hi-lo, 0)
				if got := Field(Put(v, hi, lo, x), hi, lo); got != want {
					t.Fatalf("What follows: Field of Put(%#x, %d, %d, %#x) = %#x, want %#x", v, hi, lo, x, got, want)
				}
			}
		}
	}
}

func TestSextExamples(t *testing.T) {
	for _, c := range []struct {
		v    uint64
		n    int
		want uint64
	}{
		{0x80, 8, 0xffffffffffffff80},
		{0x7f, 8, 0x7f},
		{0x180, 8, 0xffffffffffffff80},
		{0xff7f, 8, 0x7f},
		{0x800, 12, 0xfffffffffffff800},
		{0x80000000, 32, 0xffffffff80000000},
		{0x7fffffff, 32, 0x7fffffff},
		{0xffffffff00000000, 32, 0},
		{1, 1, math.MaxUint64},
		{2, 1, 0},
		{1 << 62, 63, 3 << 62},
		{1 << 63, 63, 0},
		{1 << 63, 64, 1 << 63},
		{5, 64, 5},
		{5, 65, 5},
		{math.MaxUint64, 0, 0},
		{math.MaxUint64, -1, 0},
	} {
		if got := Sext(c.v, c.n); got != c.want {
			t.Errorf("P1.2: Sext(%#x, %d) = %#x, want %#x", c.v, c.n, got, c.want)
		}
	}
}

func TestZextExamples(t *testing.T) {
	for _, c := range []struct {
		v    uint64
		n    int
		want uint64
	}{
		{0x1ff, 8, 0xff},
		{0x80, 8, 0x80},
		{0xffffffff80000000, 32, 0x80000000},
		{3, 1, 1},
		{2, 1, 0},
		{math.MaxUint64, 63, 1<<63 - 1},
		{1 << 63, 63, 0},
		{1 << 63, 64, 1 << 63},
		{1 << 63, 65, 1 << 63},
		{math.MaxUint64, 0, 0},
		{9, -1, 0},
	} {
		if got := Zext(c.v, c.n); got != c.want {
			t.Errorf("P1.2: Zext(%#x, %d) = %#x, want %#x", c.v, c.n, got, c.want)
		}
	}
}

func TestExtendEverywhere(t *testing.T) {
	for _, v := range words {
		for n := 1; n <= 63; n++ {
			low := plainField(v, n-1, 0)
			if got := Zext(v, n); got != low {
				t.Fatalf("P1.2: Zext(%#x, %d) = %#x, want %#x", v, n, got, low)
			}
			want := low
			for i := n; i < 64; i++ {
				if bit(v, n-1) {
					want += 1 << uint(i)
				}
			}
			if got := Sext(v, n); got != want {
				t.Fatalf("P1.2: Sext(%#x, %d) = %#x, want %#x", v, n, got, want)
			}
		}
		for _, n := range append([]int{0}, far...) {
			want := uint64(0)
			if n > 63 {
				want = v
			}
			if got := Sext(v, n); got != want {
				t.Fatalf("P1.2: Sext(%#x, %d) = %#x, want %#x", v, n, got, want)
			}
			if got := Zext(v, n); got != want {
				t.Fatalf("P1.2: Zext(%#x, %d) = %#x, want %#x", v, n, got, want)
			}
		}
	}
}

func TestAligned(t *testing.T) {
	for _, c := range []struct {
		v    uint64
		n    int
		want bool
	}{
		{16, 8, true},
		{12, 8, false},
		{12, 4, true},
		{4, 8, false},
		{9, 3, true},
		{10, 3, false},
		{7, 1, true},
		{math.MaxUint64, 1, true},
		{math.MaxUint64, 3, true},
		{math.MaxUint64, 2, false},
		{1 << 63, 1 << 62, true},
		{1<<63 + 1, 1 << 62, false},
		{math.MaxInt, math.MaxInt, true},
		{math.MaxInt + 1, math.MaxInt, false},
		{math.MaxUint64 - 1, math.MaxInt, true},
		{0, 1, true},
		{0, 4, true},
		{0, math.MaxInt, true},
		{0, 0, false},
		{16, 0, false},
		{4, -4, false},
		{0, -1, false},
		{8, -1, false},
		{1 << 63, math.MinInt, false},
		{0, math.MinInt, false},
	} {
		if got := Aligned(c.v, c.n); got != c.want {
			t.Errorf("P1.2: Aligned(%#x, %d) = %t, want %t", c.v, c.n, got, c.want)
		}
	}
}

func TestBytes(t *testing.T) {
	whole := []byte{0xef, 0xcd, 0xab, 0x89, 0x67, 0x45, 0x23, 0x01}
	for n := 0; n <= 8; n++ {
		if got := Bytes(0x0123456789abcdef, n); !bytes.Equal(got, whole[:n]) {
			t.Errorf("P1.3: Bytes(0x0123456789abcdef, %d) = %x, want %x", n, got, whole[:n])
		}
	}
	if got := Bytes(0x1234, 2); !bytes.Equal(got, []byte{0x34, 0x12}) {
		t.Errorf("P1.3: Bytes(0x1234, 2) = %x", got)
	}
	if got := Bytes(0x1234, 4); !bytes.Equal(got, []byte{0x34, 0x12, 0, 0}) {
		t.Errorf("P1.3: Bytes(0x1234, 4) = %x", got)
	}
	if got := Bytes(0, 3); !bytes.Equal(got, []byte{0, 0, 0}) {
		t.Errorf("P1.3: Bytes(0, 3) = %x", got)
	}
	for _, n := range append([]int{9}, far...) {
		want := whole
		if n < 1 {
			want = nil
		}
		if got := Bytes(0x0123456789abcdef, n); !bytes.Equal(got, want) {
			t.Errorf("P1.3: Bytes(0x0123456789abcdef, %d) = %x, want %x", n, got, want)
		}
	}
}

func TestBytesAreNew(t *testing.T) {
	for n := 1; n <= 8; n++ {
		a, b := Bytes(math.MaxUint64, n), Bytes(math.MaxUint64, n)
		clear(a[:cap(a)])
		if !bytes.Equal(b, bytes.Repeat([]byte{0xff}, n)) || !bytes.Equal(Bytes(math.MaxUint64, n), b) {
			t.Errorf("R3: Bytes(.., %d): two results share memory", n)
		}
	}
}

func TestWord(t *testing.T) {
	for _, c := range []struct {
		b    []byte
		want uint64
	}{
		{nil, 0},
		{[]byte{}, 0},
		{[]byte{7}, 7},
		{[]byte{0xff}, 0xff},
		{[]byte{1, 2}, 0x201},
		{[]byte{0, 0, 0x80}, 0x800000},
		{[]byte{1, 2, 3, 4, 5, 6, 7}, 0x07060504030201},
		{[]byte{1, 2, 3, 4, 5, 6, 7, 8}, 0x0807060504030201},
		{[]byte{0xff, 0xff, 0xff, 0xff, 0xff, 0xff, 0xff, 0xff}, math.MaxUint64},
		{[]byte{0, 0, 0, 0, 0, 0, 0, 1, 9}, 1 << 56},
		{[]byte{1, 2, 3, 4, 5, 6, 7, 0x88, 9, 10, 11, 12, 13, 14, 15, 16, 17}, 0x8807060504030201},
		{make([]byte, 20), 0},
		{append(make([]byte, 8), bytes.Repeat([]byte{0xff}, 100)...), 0},
	} {
		if got := Word(c.b); got != c.want {
			t.Errorf("P1.3: Word(%x) = %#x, want %#x", c.b, got, c.want)
		}
	}
}

func TestWordLeavesItsArgument(t *testing.T) {
	for n := range 13 {
		b := []byte{1, 2, 3, 4, 5, 6, 7, 8, 9, 10, 11, 12}
		Word(b[:n])
		if !bytes.Equal(b, []byte{1, 2, 3, 4, 5, 6, 7, 8, 9, 10, 11, 12}) {
			t.Errorf("R3: Word of %d bytes changed them, or what lies behind them: %x", n, b)
		}
	}
}

func TestWordOfBytes(t *testing.T) {
	for _, v := range words {
		if got := Word(Bytes(v, 8)); got != v {
			t.Errorf("What follows: Word(Bytes(%#x, 8)) = %#x", v, got)
		}
		for n := 1; n < 8; n++ {
			if got := Word(Bytes(v, n)); got != plainField(v, 8*n-1, 0) {
				t.Errorf("P1.3: Word(Bytes(%#x, %d)) = %#x", v, n, got)
			}
		}
	}
}

func TestOnesHighLow(t *testing.T) {
	for _, c := range []struct {
		v               uint64
		ones, high, low int
	}{
		{1, 1, 0, 0},
		{0x11, 2, 4, 0},
		{0x50, 2, 6, 4},
		{0xff00, 8, 15, 8},
		{1 << 63, 1, 63, 63},
		{1<<63 | 1, 2, 63, 0},
		{1<<63 - 1, 63, 62, 0},
		{math.MaxUint64, 64, 63, 0},
	} {
		if got := Ones(c.v); got != c.ones {
			t.Errorf("P1.3: Ones(%#x) = %d, want %d", c.v, got, c.ones)
		}
		if got, ok := High(c.v); got != c.high || !ok {
			t.Errorf("P1.3: High(%#x) = %d, %t, want %d, true", c.v, got, ok, c.high)
		}
		if got, ok := Low(c.v); got != c.low || !ok {
			t.Errorf("P1.3: Low(%#x) = %d, %t, want %d, true", c.v, got, ok, c.low)
		}
	}
}

func TestOfNoBits(t *testing.T) {
	if got := Ones(0); got != 0 {
		t.Errorf("P1.3: Ones(0) = %d", got)
	}
	if got, ok := High(0); got != 0 || ok {
		t.Errorf("P1.3: High(0) = %d, %t, want 0, false", got, ok)
	}
	if got, ok := Low(0); got != 0 || ok {
		t.Errorf("P1.3: Low(0) = %d, %t, want 0, false", got, ok)
	}
}

func TestOnesHighLowEverywhere(t *testing.T) {
	for _, w := range words {
		for n := range 64 {
			for _, v := range []uint64{w >> n, w << n, 1 << n, w>>n | 1<<n} {
				some := v != 0
				high, low := 0, 0
				if some {
					high, low = bits.Len64(v)-1, bits.TrailingZeros64(v)
				}
				if got := Ones(v); got != bits.OnesCount64(v) {
					t.Fatalf("P1.3: Ones(%#x) = %d", v, got)
				}
				if got, ok := High(v); got != high || ok != some {
					t.Fatalf("P1.3: High(%#x) = %d, %t", v, got, ok)
				}
				if got, ok := Low(v); got != low || ok != some {
					t.Fatalf("P1.3: Low(%#x) = %d, %t", v, got, ok)
				}
			}
		}
	}
}
