package height_test

import (
	"bytes"
	"math"
	"slices"
	"sync"
	"testing"

	"thalweg/api"
	"thalweg/height"
)

// rising are heights that are right and not Null, each less than all behind it.
func rising() []api.Height {
	return []api.Height{
		{Delta: -api.MaxDelta, Id: 63},
		{Delta: -1, Id: 0},
		{Delta: -1, Id: 63},
		{Id: 0},
		{Id: 1},
		{Id: 63},
		{Delta: 1, Id: 0},
		{Delta: 256, Id: 0},
		{Delta: api.MaxDelta, Id: 0},
		{R: 1, Delta: -api.MaxDelta, Id: 0},
		{R: 1, Id: 7},
		{Oid: 1, Delta: -5, Id: 2},
		{Oid: 1, R: 1, Delta: -5, Id: 2},
		{Oid: 63, Id: 0},
		{Tau: 1, Delta: -api.MaxDelta, Id: 0},
		{Tau: 1, Oid: 62, Delta: 9, Id: 5},
		{Tau: 2, Oid: 1, R: 1, Id: 4},
		{Tau: api.MaxTau, Id: 0},
		{Tau: api.MaxTau, Oid: 63, R: 1, Delta: api.MaxDelta, Id: 62},
		{Tau: api.MaxTau, Oid: 63, R: 1, Delta: api.MaxDelta, Id: 63},
	}
}

// wrong are heights that are not right.
func wrong() []api.Height {
	return []api.Height{
		{Id: -1},
		{Id: 64},
		{Id: 255},
		{Id: math.MinInt},
		{Id: math.MaxInt},
		{Tau: -1},
		{Tau: api.MaxTau + 1},
		{Tau: math.MinInt},
		{Tau: math.MaxInt},
		{Oid: -1},
		{Oid: 64},
		{Oid: 256},
		{R: -1},
		{R: 2},
		{R: 256},
		{Delta: -api.MaxDelta - 1},
		{Delta: api.MaxDelta + 1},
		{Delta: math.MinInt},
		{Delta: math.MaxInt},
		{Null: true, Id: -1},
		{Null: true, Id: 64},
		{Null: true, Tau: 1},
		{Null: true, Oid: 1},
		{Null: true, R: 1},
		{Null: true, Delta: 1},
		{Null: true, Delta: -1, Id: 3},
	}
}

func TestCheckTakesWhatIsRight(t *testing.T) { // P2.1
	for _, h := range rising() {
		if e := height.Check(h); e != api.OK {
			t.Errorf("Check(%v): %d", h, e)
		}
	}
	for id := 0; id < 64; id++ {
		for _, h := range []api.Height{{Null: true, Id: id}, {Id: id}, {Oid: id}} {
			if e := height.Check(h); e != api.OK {
				t.Errorf("Check(%v): %d", h, e)
			}
		}
	}
}

func TestCheckTurnsAwayWhatIsNotRight(t *testing.T) { // P2.1, R1
	for _, h := range wrong() {
		if e := height.Check(h); e != api.ErrArg {
			t.Errorf("Check(%v): %d, want ErrArg", h, e)
		}
	}
}

func TestNullAndZero(t *testing.T) { // P2.1
	for _, id := range []int{0, 1, 5, 63, 64, -1, math.MinInt, math.MaxInt} {
		if h := height.Null(id); h != (api.Height{Null: true, Id: id}) {
			t.Errorf("Null(%d): %v", id, h)
		}
		if h := height.Zero(id); h != (api.Height{Id: id}) {
			t.Errorf("Zero(%d): %v", id, h)
		}
	}
}

func TestLessGoesByTheFirstThatIsNotAlike(t *testing.T) { // P2.1
	l := rising()
	for i, a := range l {
		for k, b := range l {
			if height.Less(a, b) != (i < k) {
				t.Errorf("Less(%v, %v): want %v", a, b, i < k)
			}
		}
	}
}

func TestLessWeighsEachNumberAheadOfThoseBehindIt(t *testing.T) { // P2.1
	for _, x := range [][2]api.Height{
		{{Tau: 4, Oid: 9, R: 1, Delta: 8, Id: 7}, {Tau: 5, Oid: 0, R: 0, Delta: -8, Id: 0}},
		{{Tau: 4, Oid: 8, R: 1, Delta: 8, Id: 7}, {Tau: 4, Oid: 9, R: 0, Delta: -8, Id: 0}},
		{{Tau: 4, Oid: 9, R: 0, Delta: 8, Id: 7}, {Tau: 4, Oid: 9, R: 1, Delta: -8, Id: 0}},
		{{Tau: 4, Oid: 9, R: 1, Delta: -8, Id: 7}, {Tau: 4, Oid: 9, R: 1, Delta: -7, Id: 0}},
		{{Tau: 4, Oid: 9, R: 1, Delta: 8, Id: 6}, {Tau: 4, Oid: 9, R: 1, Delta: 8, Id: 7}},
	} {
		if !height.Less(x[0], x[1]) || height.Less(x[1], x[0]) {
			t.Errorf("%v is not less than %v", x[0], x[1])
		}
	}
}

func TestNoneIsLessThanWhatIsNullOrNotRight(t *testing.T) { // P2.1
	others := append(wrong(), height.Null(0), height.Null(3), height.Null(63))
	for _, a := range others {
		for _, b := range append(rising(), others...) {
			if height.Less(a, b) || height.Less(b, a) {
				t.Errorf("%v and %v: one is less", a, b)
			}
		}
	}
}

func TestLevelAnswersTheFirstThree(t *testing.T) { // P2.1
	for _, h := range rising() {
		if v := height.Level(h); v != (api.Level{Tau: h.Tau, Oid: h.Oid, R: h.R}) {
			t.Errorf("Level(%v): %v", h, v)
		}
	}
	if v := height.Level(api.Height{Tau: 258, Oid: 3, R: 1, Delta: -1, Id: 7}); v != (api.Level{Tau: 258, Oid: 3, R: 1}) {
		t.Errorf("Level: %v", v)
	}
}

func TestLevelOfWhatHasNone(t *testing.T) { // P2.1, R1
	others := append(wrong(), height.Null(0), height.Null(63),
		api.Height{Tau: 9, Oid: 3, R: 1, Id: 64},
		api.Height{Tau: 9, Oid: 3, R: 1, Delta: api.MaxDelta + 1},
		api.Height{Null: true, Tau: 9, Oid: 3, R: 1})
	for _, h := range others {
		if v := height.Level(h); v != (api.Level{}) {
			t.Errorf("Level(%v): %v, want noughts", h, v)
		}
	}
}

func TestOrderOfLevels(t *testing.T) { // P2.1
	l := []api.Level{
		{Tau: math.MinInt, Oid: 5, R: 5},
		{Tau: -1},
		{Oid: math.MinInt},
		{Oid: -1, R: 7},
		{R: -1},
		{},
		{R: 1},
		{R: 2},
		{Oid: 1},
		{Oid: 1, R: 1},
		{Oid: 64, R: -3},
		{Tau: 1, Oid: -9},
		{Tau: 1},
		{Tau: 1, Oid: 63, R: 1},
		{Tau: 2},
		{Tau: api.MaxTau, Oid: 63, R: 1},
		{Tau: math.MaxInt, Oid: math.MaxInt, R: math.MaxInt - 1},
		{Tau: math.MaxInt, Oid: math.MaxInt, R: math.MaxInt},
	}
	for i, a := range l {
		for k, b := range l {
			want := 0
			if i < k {
				want = -1
			} else if i > k {
				want = 1
			}
			if n := height.Order(a, b); n != want {
				t.Errorf("Order(%v, %v): %d, want %d", a, b, n, want)
			}
		}
	}
}

func TestAtAnswersTheHeightWithThese(t *testing.T) { // P2.2
	for _, want := range rising() {
		h, e := height.At(api.Level{Tau: want.Tau, Oid: want.Oid, R: want.R}, want.Delta, want.Id)
		if h != want || e != api.OK {
			t.Errorf("At of %v: %v, %d", want, h, e)
		}
	}
}

func TestAtTurnsAwayWhatWouldNotBeRight(t *testing.T) { // P2.2, R1
	for _, x := range wrong() {
		if x.Null {
			continue
		}
		h, e := height.At(api.Level{Tau: x.Tau, Oid: x.Oid, R: x.R}, x.Delta, x.Id)
		if h != (api.Height{}) || e != api.ErrArg {
			t.Errorf("At of %v: %v, %d, want noughts, ErrArg", x, h, e)
		}
	}
	if h, e := height.At(api.Level{Tau: 5, Oid: 5, R: 2}, 5, 5); h != (api.Height{}) || e != api.ErrArg {
		t.Errorf("At of R 2: %v, %d, want noughts, ErrArg", h, e)
	}
}

func TestOneDeltaAboveIsAbove(t *testing.T) { // P2.1, P2.2
	h, e := height.At(api.Level{}, 1, 2)
	if e != api.OK || !height.Less(height.Zero(3), h) || height.Less(h, height.Zero(3)) {
		t.Errorf("%v, %d is not above %v", h, e, height.Zero(3))
	}
}

// known are heights and the bytes that they have.
func known() map[api.Height]string {
	return map[api.Height]string{
		{Null: true}:         "\x00\x00",
		{Null: true, Id: 5}:  "\x00\x05",
		{Null: true, Id: 63}: "\x00\x3f",
		{}:                   "\x01" + "\x00\x00\x00\x00\x00\x00\x00\x00" + "\x00\x00" + "\x00\x00\x00\x00\x00\x00\x00\x00" + "\x00",
		{Id: 63}:             "\x01" + "\x00\x00\x00\x00\x00\x00\x00\x00" + "\x00\x00" + "\x00\x00\x00\x00\x00\x00\x00\x00" + "\x3f",
		{Tau: 0x0102030405060708, Oid: 9, R: 1, Delta: 0xa0b0c0d0e, Id: 15}:     "\x01" + "\x01\x02\x03\x04\x05\x06\x07\x08" + "\x09\x01" + "\x00\x00\x00\x0a\x0b\x0c\x0d\x0e" + "\x0f",
		{Tau: 258, Oid: 3, R: 1, Delta: -2, Id: 7}:                              "\x01" + "\x00\x00\x00\x00\x00\x00\x01\x02" + "\x03\x01" + "\xff\xff\xff\xff\xff\xff\xff\xfe" + "\x07",
		{Tau: 4611686018427387903, Oid: 63, R: 1, Delta: 1099511627776, Id: 63}: "\x01" + "\x3f\xff\xff\xff\xff\xff\xff\xff" + "\x3f\x01" + "\x00\x00\x01\x00\x00\x00\x00\x00" + "\x3f",
		{Tau: 4611686018427387903, Oid: 0, R: 0, Delta: -1099511627776, Id: 0}:  "\x01" + "\x3f\xff\xff\xff\xff\xff\xff\xff" + "\x00\x00" + "\xff\xff\xff\x00\x00\x00\x00\x00" + "\x00",
	}
}

func TestBytesOfHeights(t *testing.T) { // P2.3
	for h, want := range known() {
		if b, e := height.Bytes(h); string(b) != want || e != api.OK {
			t.Errorf("Bytes(%v): %x, %d, want %x", h, b, e, want)
		}
	}
}

func TestBytesTurnsAwayWhatIsNotRight(t *testing.T) { // P2.3, R1
	for _, h := range wrong() {
		if b, e := height.Bytes(h); len(b) != 0 || e != api.ErrArg {
			t.Errorf("Bytes(%v): %x, %d, want none, ErrArg", h, b, e)
		}
	}
}

func TestParseAnswersTheHeightAndThePlaceBehind(t *testing.T) { // P2.3
	for want, b := range known() {
		if h, at, e := height.Parse([]byte(b), 0); h != want || at != len(b) || e != api.OK {
			t.Errorf("Parse(%x): %v, %d, %d, want %v, %d", b, h, at, e, want, len(b))
		}
	}
}

// refused tells whether Parse answers this error, and noughts.
func refused(t *testing.T, b []byte, at int, want api.Errno) {
	t.Helper()
	if h, behind, e := height.Parse(b, at); h != (api.Height{}) || behind != 0 || e != want {
		t.Errorf("Parse(%x, %d): %v, %d, %d, want noughts, %d", b, at, h, behind, e, want)
	}
}

func TestParseOfPlacesThatAreNone(t *testing.T) { // P2.3, R1
	b := []byte("\x00\x05\x00\x06")
	for _, at := range []int{-1, 5, 6, math.MinInt, math.MaxInt} {
		refused(t, b, at, api.ErrArg)
	}
	refused(t, nil, 1, api.ErrArg)
	refused(t, nil, -1, api.ErrArg)
}

func TestParseOfBytesThatAreLacking(t *testing.T) { // P2.3, R1
	refused(t, nil, 0, api.ErrMore)
	refused(t, []byte{}, 0, api.ErrMore)
	refused(t, []byte("\x00\x05"), 2, api.ErrMore)
	for _, s := range known() {
		for n := range s {
			refused(t, []byte(s[:n]), 0, api.ErrMore)
			refused(t, []byte("\x07\x07"+s[:n]), 2, api.ErrMore)
			roomy := []byte(s)
			refused(t, roomy[:n], 0, api.ErrMore)
		}
	}
}

func TestParseOfAFirstByteThatIsNone(t *testing.T) { // P2.3
	rest := make([]byte, 19)
	for c := 2; c < 256; c++ {
		b := append([]byte{byte(c)}, rest...)
		for _, n := range []int{1, 2, 5, 19, 20} {
			refused(t, b[:n], 0, api.ErrForm)
		}
	}
}

func TestParseOfWhatWouldNotBeRight(t *testing.T) { // P2.3
	good := []byte(known()[api.Height{Tau: 258, Oid: 3, R: 1, Delta: -2, Id: 7}])
	for _, x := range []struct {
		at int
		s  string
	}{
		{1, "\x40\x00\x00\x00\x00\x00\x00\x00"},
		{1, "\x80\x00\x00\x00\x00\x00\x00\x00"},
		{1, "\xff\xff\xff\xff\xff\xff\xff\xff"},
		{9, "\x40"},
		{9, "\xff"},
		{10, "\x02"},
		{10, "\xff"},
		{11, "\x00\x00\x01\x00\x00\x00\x00\x01"},
		{11, "\xff\xff\xfe\xff\xff\xff\xff\xff"},
		{11, "\x7f\xff\xff\xff\xff\xff\xff\xff"},
		{11, "\x80\x00\x00\x00\x00\x00\x00\x00"},
		{19, "\x40"},
		{19, "\xff"},
	} {
		b := bytes.Clone(good)
		copy(b[x.at:], x.s)
		refused(t, b, 0, api.ErrForm)
	}
	refused(t, []byte("\x00\x40"), 0, api.ErrForm)
	refused(t, []byte("\x00\xff"), 0, api.ErrForm)
}

func TestParseReadsAllAheadOfWhatWouldNotBeRight(t *testing.T) { // P2.3
	b := bytes.Repeat([]byte{0xff}, 20)
	b[0] = 1
	for n := 1; n < 20; n++ {
		refused(t, b[:n], 0, api.ErrMore)
	}
	refused(t, b, 0, api.ErrForm)
}

func TestEndsAnswersTheLeastAndTheGreatest(t *testing.T) { // P2.4
	l := rising()
	for shift := range l {
		turned := append(slices.Clone(l[shift:]), l[:shift]...)
		low, high, ok := height.Ends(turned)
		if low != l[0] || high != l[len(l)-1] || !ok {
			t.Errorf("Ends from %d on: %v, %v, %v", shift, low, high, ok)
		}
		slices.Reverse(turned)
		if a, b, ok := height.Ends(turned); a != low || b != high || !ok {
			t.Errorf("Ends from %d back: %v, %v, %v", shift, a, b, ok)
		}
	}
}

func TestEndsPassesOverWhatIsNullOrNotRight(t *testing.T) { // P2.4
	for _, h := range rising() {
		l := append(wrong(), height.Null(0), h, height.Null(63))
		l = append(append(l, wrong()...), h)
		if low, high, ok := height.Ends(l); low != h || high != h || !ok {
			t.Errorf("Ends: %v, %v, %v, want %v", low, high, ok, h)
		}
	}
	a, b := height.Zero(4), api.Height{Tau: 3, Id: 1}
	l := []api.Height{{Tau: -1}, b, height.Null(0), a, {Tau: api.MaxTau, R: 2}}
	if low, high, ok := height.Ends(l); low != a || high != b || !ok {
		t.Errorf("Ends: %v, %v, %v, want %v, %v", low, high, ok, a, b)
	}
}

func TestEndsOfNone(t *testing.T) { // P2.4, R1
	for _, l := range [][]api.Height{nil, {}, {height.Null(1)}, {height.Null(63), height.Null(0)}, wrong()} {
		if low, high, ok := height.Ends(l); low != (api.Height{}) || high != (api.Height{}) || ok {
			t.Errorf("Ends(%v): %v, %v, %v, want noughts, false", l, low, high, ok)
		}
	}
}

// many are heights that are right and not Null: all of few numbers each.
func many() []api.Height {
	var l []api.Height
	for _, tau := range []int{0, 1, api.MaxTau} {
		for _, oid := range []int{0, 63} {
			for r := range 2 {
				for _, delta := range []int{-api.MaxDelta, 0, 3} {
					for _, id := range []int{0, 9, 63} {
						l = append(l, api.Height{Tau: tau, Oid: oid, R: r, Delta: delta, Id: id})
					}
				}
			}
		}
	}
	return l
}

func TestOfTwoThatAreNotAlikeOneIsLess(t *testing.T) { // P2.5
	l := many()
	for _, a := range l {
		for _, b := range l {
			n := 0
			if height.Less(a, b) {
				n++
			}
			if height.Less(b, a) {
				n++
			}
			if a.Id != b.Id && n != 1 || a == b && n != 0 || n == 2 {
				t.Errorf("%v, %v: %d of them are less", a, b, n)
			}
		}
	}
}

func TestLessAndLessIsLess(t *testing.T) { // P2.5
	l := many()
	for _, a := range l {
		for _, b := range l {
			if !height.Less(a, b) {
				continue
			}
			for _, c := range l {
				if height.Less(b, c) && !height.Less(a, c) {
					t.Fatalf("%v, %v, %v", a, b, c)
				}
			}
		}
	}
}

func TestWhatHasBytesIsParsedAsItself(t *testing.T) { // P2.5
	l := append(many(), rising()...)
	for id := range 64 {
		l = append(l, height.Null(id), height.Zero(id))
	}
	seen := map[string]api.Height{}
	for _, want := range l {
		b, e := height.Bytes(want)
		if e != api.OK {
			t.Fatalf("Bytes(%v): %d", want, e)
		}
		if h, there := seen[string(b)]; there && h != want {
			t.Errorf("%v and %v have the same bytes", h, want)
		}
		seen[string(b)] = want
		for lead := range 4 {
			all := append(bytes.Repeat([]byte{1}, lead), b...)
			all = append(all, 0xff, 0xff)
			if h, at, e := height.Parse(all, lead); h != want || at != lead+len(b) || e != api.OK {
				t.Errorf("Parse of %v behind %d: %v, %d, %d", want, lead, h, at, e)
			}
		}
	}
}

func TestWhatIsHandedInStaysAsItIs(t *testing.T) { // R2
	room := append(rising(), wrong()...)
	slices.Reverse(room)
	was := slices.Clone(room)
	height.Ends(room[:20])
	if !slices.Equal(room, was) {
		t.Errorf("Ends wrote into what was handed in")
	}
	b := []byte(known()[api.Height{Tau: 258, Oid: 3, R: 1, Delta: -2, Id: 7}] + "\x01\x02")
	old := bytes.Clone(b)
	height.Parse(b[:20], 0)
	height.Parse(b[:12], 0)
	if !bytes.Equal(b, old) {
		t.Errorf("Parse wrote into what was handed in: %x, was %x", b, old)
	}
}

func TestAnswersShareNoMemory(t *testing.T) { // R2
	for h, want := range known() {
		b, _ := height.Bytes(h)
		for i := range b {
			b[i] = 0xaa
		}
		if again, _ := height.Bytes(h); string(again) != want {
			t.Errorf("Bytes(%v) again: %x, want %x", h, again, want)
		}
	}
}

func TestCallsAtOneTimeDoNotMeet(t *testing.T) { // R2
	var all sync.WaitGroup
	turned := make([]int, 8)
	for k := range turned {
		all.Go(func() {
			for i := range 2000 {
				a := api.Height{Tau: i, Oid: k, Id: k}
				b := api.Height{Tau: i + 1, Oid: k, Id: k}
				low, high, ok := height.Ends([]api.Height{b, height.Null(k), a})
				x, _ := height.Bytes(a)
				y, _, _ := height.Parse(x, 0)
				if low != a || high != b || !ok || y != a {
					turned[k]++
				}
			}
		})
	}
	all.Wait()
	for k, n := range turned {
		if n != 0 {
			t.Errorf("worker %d: %d answers of others", k, n)
		}
	}
}
