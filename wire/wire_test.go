package wire_test

import (
	"bytes"
	"math"
	"sync"
	"testing"

	"thalweg/api"
	"thalweg/wire"
)

// highest is the greatest number of n bytes.
func highest(n int) int { return 1<<(8*n) - 1 }

func TestPutAnswersTheBytesOfANumber(t *testing.T) { // P1.1
	for _, x := range []struct {
		v, n int
		want []byte
	}{
		{0, 1, []byte{0}},
		{1, 1, []byte{1}},
		{255, 1, []byte{255}},
		{256, 2, []byte{1, 0}},
		{258, 3, []byte{0, 1, 2}},
		{65535, 2, []byte{255, 255}},
		{65536, 3, []byte{1, 0, 0}},
		{api.MaxWord, 4, []byte{255, 255, 255, 255}},
		{0x0102030405, 5, []byte{1, 2, 3, 4, 5}},
		{0x010203040506, 6, []byte{1, 2, 3, 4, 5, 6}},
		{0x01020304050607, 7, []byte{1, 2, 3, 4, 5, 6, 7}},
		{0, 7, []byte{0, 0, 0, 0, 0, 0, 0}},
		{1<<56 - 1, 7, []byte{255, 255, 255, 255, 255, 255, 255}},
	} {
		if b, e := wire.Put(x.v, x.n); e != api.OK || !bytes.Equal(b, x.want) {
			t.Errorf("Put(%d, %d): %x, %d, want %x", x.v, x.n, b, e, x.want)
		}
	}
}

func TestPutTurnsAwayWhatDoesNotFit(t *testing.T) { // P1.1, R1
	type call struct{ v, n int }
	calls := []call{{0, 0}, {1, 0}, {0, 8}, {1, 8}, {0, 9}, {0, -1}, {0, 64}, {0, math.MinInt}, {0, math.MaxInt}, {-1, 0}, {-1, 8}}
	for n := 1; n <= 7; n++ {
		calls = append(calls, call{-1, n}, call{-256, n}, call{highest(n) + 1, n}, call{math.MinInt, n}, call{math.MaxInt, n})
	}
	for _, x := range calls {
		if b, e := wire.Put(x.v, x.n); e != api.ErrArg || len(b) != 0 {
			t.Errorf("Put(%d, %d): %x, %d, want nothing, ErrArg", x.v, x.n, b, e)
		}
	}
}

func TestPutTakesAllThatFits(t *testing.T) { // P1.1
	for n := 1; n <= 7; n++ {
		for _, v := range []int{0, 1, highest(n) / 2, highest(n) - 1, highest(n)} {
			if b, e := wire.Put(v, n); e != api.OK || len(b) != n {
				t.Errorf("Put(%d, %d): %x, %d, want %d bytes", v, n, b, e, n)
			}
		}
	}
}

func TestGetAnswersTheNumberAndThePlaceBehind(t *testing.T) { // P1.1
	b := []byte{0, 1, 2, 255, 254, 253, 252, 251}
	for _, x := range []struct{ at, n, v int }{
		{0, 1, 0},
		{0, 3, 258},
		{1, 2, 258},
		{3, 1, 255},
		{3, 4, 0xfffefdfc},
		{7, 1, 251},
		{0, 7, 0x000102fffefdfc},
		{1, 7, 0x0102fffefdfcfb},
	} {
		if v, at, e := wire.Get(b, x.at, x.n); v != x.v || at != x.at+x.n || e != api.OK {
			t.Errorf("Get(%d, %d): %d, %d, %d, want %d, %d", x.at, x.n, v, at, e, x.v, x.at+x.n)
		}
	}
}

func TestGetTurnsAwayWhatIsNotThere(t *testing.T) { // P1.1, R1
	b := []byte{9, 8, 7, 6}
	for _, x := range []struct {
		b     []byte
		at, n int
		want  api.Errno
	}{
		{b, 0, 0, api.ErrArg},
		{b, 0, 8, api.ErrArg},
		{b, 0, -1, api.ErrArg},
		{b, 0, math.MinInt, api.ErrArg},
		{b, 0, math.MaxInt, api.ErrArg},
		{b, -1, 1, api.ErrArg},
		{b, 5, 1, api.ErrArg},
		{b, 5, 7, api.ErrArg},
		{b, math.MinInt, 1, api.ErrArg},
		{b, math.MaxInt, 7, api.ErrArg},
		{b, 4, 0, api.ErrArg},
		{b, 4, 8, api.ErrArg},
		{b, 4, 1, api.ErrMore},
		{b, 4, 7, api.ErrMore},
		{b, 3, 2, api.ErrMore},
		{b, 0, 5, api.ErrMore},
		{nil, 0, 1, api.ErrMore},
		{nil, 0, 0, api.ErrArg},
		{nil, 1, 1, api.ErrArg},
		{[]byte{}, 0, 7, api.ErrMore},
		{make([]byte, 2, 16), 0, 3, api.ErrMore},
	} {
		if v, at, e := wire.Get(x.b, x.at, x.n); v != 0 || at != 0 || e != x.want {
			t.Errorf("Get(%x, %d, %d): %d, %d, %d, want noughts, %d", x.b, x.at, x.n, v, at, e, x.want)
		}
	}
}

func TestIntAnswersEightBytes(t *testing.T) { // P1.2
	for _, x := range []struct {
		v    int
		want []byte
	}{
		{0, []byte{0, 0, 0, 0, 0, 0, 0, 0}},
		{1, []byte{0, 0, 0, 0, 0, 0, 0, 1}},
		{256, []byte{0, 0, 0, 0, 0, 0, 1, 0}},
		{0x0102030405060708, []byte{1, 2, 3, 4, 5, 6, 7, 8}},
		{math.MaxInt, []byte{127, 255, 255, 255, 255, 255, 255, 255}},
		{-1, []byte{255, 255, 255, 255, 255, 255, 255, 255}},
		{-2, []byte{255, 255, 255, 255, 255, 255, 255, 254}},
		{-256, []byte{255, 255, 255, 255, 255, 255, 255, 0}},
		{-257, []byte{255, 255, 255, 255, 255, 255, 254, 255}},
		{math.MinInt, []byte{128, 0, 0, 0, 0, 0, 0, 0}},
		{api.MaxTau, []byte{63, 255, 255, 255, 255, 255, 255, 255}},
		{-api.MaxDelta, []byte{255, 255, 255, 0, 0, 0, 0, 0}},
	} {
		if b := wire.Int(x.v); !bytes.Equal(b, x.want) {
			t.Errorf("Int(%d): %x, want %x", x.v, b, x.want)
		}
		if v, at, e := wire.GetInt(x.want, 0); v != x.v || at != 8 || e != api.OK {
			t.Errorf("GetInt(%x): %d, %d, %d, want %d, 8", x.want, v, at, e, x.v)
		}
	}
}

func TestGetIntTurnsAwayWhatIsNotThere(t *testing.T) { // P1.2, R1
	b := []byte{1, 2, 3, 4, 5, 6, 7, 8, 9}
	for _, x := range []struct {
		b    []byte
		at   int
		want api.Errno
	}{
		{b, -1, api.ErrArg},
		{b, 10, api.ErrArg},
		{b, math.MinInt, api.ErrArg},
		{b, math.MaxInt, api.ErrArg},
		{b, 2, api.ErrMore},
		{b, 9, api.ErrMore},
		{b[:7], 0, api.ErrMore},
		{nil, 0, api.ErrMore},
		{nil, 1, api.ErrArg},
	} {
		if v, at, e := wire.GetInt(x.b, x.at); v != 0 || at != 0 || e != x.want {
			t.Errorf("GetInt(%x, %d): %d, %d, %d, want noughts, %d", x.b, x.at, v, at, e, x.want)
		}
	}
	if v, at, e := wire.GetInt(b, 1); v != 0x0203040506070809 || at != 9 || e != api.OK {
		t.Errorf("GetInt at 1: %x, %d, %d", v, at, e)
	}
}

func TestSumOfKnownBytes(t *testing.T) { // P1.3
	for _, x := range []struct {
		b    []byte
		want int
	}{
		{nil, 0x0001},
		{[]byte{}, 0x0001},
		{[]byte{0}, 0x0101},
		{[]byte{1, 2}, 0x0604},
		{[]byte{2, 1}, 0x0704},
		{[]byte{249}, 0xfafa},
		{[]byte{250}, 0x0000},
		{[]byte{251}, 0x0101},
		{[]byte{255}, 0x0505},
		{[]byte{255, 255}, 0x0e09},
		{[]byte("thalweg"), 0x0af7},
		{make([]byte, 250), 0xfa01},
		{make([]byte, 251), 0x0001},
	} {
		if n := wire.Sum(x.b); n != x.want {
			t.Errorf("Sum(%x): %04x, want %04x", x.b, n, x.want)
		}
	}
}

// longSum tells the sum in closed form: A is 1 and all bytes, and B holds each byte as often as bytes stand from it on.
func longSum(b []byte) int {
	plain, weighed := 1, len(b)
	for i, c := range b {
		plain += int(c)
		weighed += (len(b) - i) * int(c)
	}
	return weighed%251*256 + plain%251
}

func TestSumOfLongBytes(t *testing.T) { // P1.3
	b := make([]byte, 70000)
	for i := range b {
		b[i] = byte(i*i + i/7)
	}
	for _, n := range []int{1, 2, 250, 251, 252, 1398, 65536, len(b)} {
		if got, want := wire.Sum(b[:n]), longSum(b[:n]); got != want {
			t.Errorf("Sum of %d bytes: %04x, want %04x", n, got, want)
		}
	}
	if got, want := wire.Sum(bytes.Repeat([]byte{255}, 5000)), longSum(bytes.Repeat([]byte{255}, 5000)); got != want {
		t.Errorf("Sum of 5000 bytes 255: %04x, want %04x", got, want)
	}
}

// between lays b between other bytes, lead of them ahead.
func between(b []byte, lead int) []byte {
	l := bytes.Repeat([]byte{0xa5}, lead)
	return append(append(l, b...), 0x5a, 0x5a)
}

func TestWhatIsPutIsGotWhereverItStands(t *testing.T) { // P1.4
	for n := 1; n <= 7; n++ {
		for _, v := range []int{0, 1, 0x0102030405060708 & highest(n), highest(n) / 2, highest(n)/2 + 1, highest(n) - 1, highest(n)} {
			b, _ := wire.Put(v, n)
			for lead := 0; lead < 12; lead++ {
				if w, at, e := wire.Get(between(b, lead), lead, n); w != v || at != lead+n || e != api.OK {
					t.Errorf("Get of Put(%d, %d) behind %d: %d, %d, %d", v, n, lead, w, at, e)
				}
			}
		}
	}
	for shift := 0; shift < 64; shift++ {
		for _, v := range []int{1 << shift, 1<<shift - 1, -1 << shift, -1<<shift - 1} {
			for lead := 0; lead < 12; lead++ {
				if w, at, e := wire.GetInt(between(wire.Int(v), lead), lead); w != v || at != lead+8 || e != api.OK {
					t.Errorf("GetInt of Int(%d) behind %d: %d, %d, %d", v, lead, w, at, e)
				}
			}
		}
	}
}

func TestPutAndIntAgree(t *testing.T) { // P1.1 and P1.2 together
	for n := 1; n <= 7; n++ {
		v := 0x7a6b5c4d3e2f10 & highest(n)
		b, _ := wire.Put(v, n)
		if whole := wire.Int(v); !bytes.Equal(whole[8-n:], b) {
			t.Errorf("Put(%x, %d) %x, Int %x", v, n, b, whole)
		}
	}
}

// apart tells whether bytes are 251 apart, or the same: sums know no difference between such ones.
func apart(a, b int) bool { return a == b || a-b == 251 || b-a == 251 }

func TestSumKnowsAByteThatIsAnotherOne(t *testing.T) { // P1.4
	base := []byte{7, 0, 255, 128, 251, 4, 99}
	for at := range base {
		for from := 0; from < 256; from++ {
			base[at] = byte(from)
			was := wire.Sum(base)
			for to := 0; to < 256; to++ {
				base[at] = byte(to)
				if same := wire.Sum(base) == was; same != apart(from, to) {
					t.Fatalf("byte %d from %d to %d: same sum: %v", at, from, to, same)
				}
			}
		}
	}
}

func TestSumKnowsBytesThatChangePlaces(t *testing.T) { // P1.4
	for at := 0; at < 5; at++ {
		base := []byte{3, 250, 17, 254, 0, 91}
		for a := 0; a < 256; a++ {
			for b := 0; b < 256; b++ {
				base[at], base[at+1] = byte(a), byte(b)
				was := wire.Sum(base)
				base[at], base[at+1] = byte(b), byte(a)
				if same := wire.Sum(base) == was; same != apart(a, b) {
					t.Fatalf("bytes %d, %d at %d: same sum: %v", a, b, at, same)
				}
			}
		}
	}
}

func TestBytesHandedInStayAsTheyAre(t *testing.T) { // R2
	room := []byte{1, 2, 3, 4, 5, 6, 7, 8, 9, 10, 11, 12}
	was := bytes.Clone(room)
	b := room[:10]
	wire.Get(b, 1, 7)
	wire.Get(b, 8, 3)
	wire.GetInt(b, 2)
	wire.GetInt(b, 5)
	wire.Sum(b)
	if !bytes.Equal(room, was) {
		t.Errorf("%x, was %x", room, was)
	}
}

func TestAnswersShareNoMemory(t *testing.T) { // R2
	a, _ := wire.Put(258, 2)
	a[0], a[1] = 9, 9
	if b, _ := wire.Put(258, 2); !bytes.Equal(b, []byte{1, 2}) {
		t.Errorf("Put again: %x", b)
	}
	c := wire.Int(258)
	c[7] = 9
	if d := wire.Int(258); !bytes.Equal(d, []byte{0, 0, 0, 0, 0, 0, 1, 2}) {
		t.Errorf("Int again: %x", d)
	}
}

func TestCallsAtOneTimeDoNotMeet(t *testing.T) { // R2
	var all sync.WaitGroup
	wrong := make([]int, 8)
	for k := range wrong {
		all.Go(func() {
			for i := 0; i < 20000; i++ {
				v := k<<40 | i
				b, _ := wire.Put(v, 7)
				w, _, _ := wire.Get(b, 0, 7)
				x, _, _ := wire.GetInt(wire.Int(-v), 0)
				if w != v || x != -v {
					wrong[k]++
				}
			}
		})
	}
	all.Wait()
	for k, n := range wrong {
		if n != 0 {
			t.Errorf("worker %d: %d answers of others", k, n)
		}
	}
}
