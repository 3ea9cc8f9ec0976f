package ack_test

import (
	"bytes"
	"math"
	"slices"
	"strings"
	"sync"
	"testing"

	"thalweg/ack"
	"thalweg/api"
)

// every answers an ack of each node there is, of numbers that are like none near them.
func every() []api.Ack {
	var l []api.Ack
	for id := range api.MaxNodes {
		l = append(l, api.Ack{Id: id, Epoch: 1<<26*id + 77*id, Next: 1021 * id, Mask: 65535 - 513*id})
	}
	return l
}

// everyBytes answers the bytes of every.
func everyBytes() string {
	b := []byte{64}
	for _, a := range every() {
		b = append(b, byte(a.Id), byte(a.Epoch>>24), byte(a.Epoch>>16), byte(a.Epoch>>8), byte(a.Epoch))
		b = append(b, byte(a.Next>>8), byte(a.Next), byte(a.Mask>>8), byte(a.Mask))
	}
	return string(b)
}

// known are rows of acks, and the bytes that they have.
func known() []struct {
	l []api.Ack
	b string
} {
	return []struct {
		l []api.Ack
		b string
	}{
		{[]api.Ack{{}}, "\x01" + "\x00\x00\x00\x00\x00\x00\x00\x00\x00"},
		{[]api.Ack{{Id: 63, Epoch: 4294967295, Next: 65535, Mask: 65535}}, "\x01" + "\x3f\xff\xff\xff\xff\xff\xff\xff\xff"},
		{[]api.Ack{{Id: 5, Epoch: 0x01020304, Next: 0x0506, Mask: 0x0708}}, "\x01" + "\x05\x01\x02\x03\x04\x05\x06\x07\x08"},
		{[]api.Ack{{Id: 0, Epoch: 255, Next: 256, Mask: 1}, {Id: 63, Epoch: 65536, Next: 1, Mask: 32768}}, "\x02" + "\x00\x00\x00\x00\xff\x01\x00\x00\x01" + "\x3f\x00\x01\x00\x00\x00\x01\x80\x00"},
		{[]api.Ack{{Id: 7, Epoch: 9}, {Id: 8, Next: 9}, {Id: 9, Mask: 9}}, "\x03" + "\x07\x00\x00\x00\x09\x00\x00\x00\x00" + "\x08\x00\x00\x00\x00\x00\x09\x00\x00" + "\x09\x00\x00\x00\x00\x00\x00\x00\x09"},
		{every(), everyBytes()},
	}
}

// wrongOnes are acks that are not right: each of one thing alone.
func wrongOnes() []api.Ack {
	var l []api.Ack
	for _, n := range []int{-1, -2, -64, -65536, math.MinInt, 64, 65, 255, 256, 261, math.MaxInt} {
		l = append(l, api.Ack{Id: n, Epoch: 2, Next: 5, Mask: 3})
	}
	for _, n := range []int{-1, -4294967295, math.MinInt, 4294967296, 4294967297, 1 << 40, math.MaxInt} {
		l = append(l, api.Ack{Id: 5, Epoch: n, Next: 5, Mask: 3})
	}
	for _, n := range []int{-1, -65531, -65536, math.MinInt, 65536, 65541, 1 << 20, math.MaxInt} {
		l = append(l, api.Ack{Id: 5, Epoch: 2, Next: n, Mask: 3}, api.Ack{Id: 5, Epoch: 2, Next: 5, Mask: n})
	}
	return l
}

// wrong are rows that are not right: each of one thing alone.
func wrong() [][]api.Ack {
	l := [][]api.Ack{nil, {}}
	for _, a := range wrongOnes() {
		l = append(l, []api.Ack{a})
		if a.Id < 63 {
			l = append(l, []api.Ack{a, {Id: 63}})
		}
		if a.Id > 0 {
			l = append(l, []api.Ack{{Id: 0}, a})
		}
		if a.Id == 5 {
			l = append(l, []api.Ack{{Id: 4}, a, {Id: 6}})
		}
	}
	for _, ids := range [][]int{{5, 5}, {0, 0}, {63, 63}, {5, 4}, {63, 0}, {1, 2, 2}, {1, 1, 2}, {1, 3, 2}, {2, 1, 3}, {1, 2, 1}} {
		var x []api.Ack
		for i, id := range ids {
			x = append(x, api.Ack{Id: id, Next: i})
		}
		l = append(l, x)
	}
	return append(l, append(every(), api.Ack{Id: 63}), append(every(), api.Ack{Id: 64}), make([]api.Ack, 65), make([]api.Ack, 257))
}

// some answers acks of those nodes whose bits of which are 1, of numbers that hang on which ones these are.
func some(which uint64) []api.Ack {
	var l []api.Ack
	for id := range api.MaxNodes {
		if which>>id&1 == 1 {
			n := int(which>>1) + id*131
			l = append(l, api.Ack{Id: id, Epoch: n & api.MaxWord, Next: n % 65521 & 65535, Mask: n % 65519 & 65535})
		}
	}
	return l
}

// rows are sets of nodes that are not empty: each one alone, those ahead of it, those behind it, all, and others that have no order.
func rows() []uint64 {
	l := []uint64{math.MaxUint64}
	for id := range api.MaxNodes {
		l = append(l, 1<<id, 2<<id-1, ^uint64(1<<id-1), ^uint64(1<<id))
	}
	for which, i := uint64(7), 0; i < 40; i++ {
		which = which*6364136223846793005 + 1442695040888963407
		l = append(l, which)
	}
	return l
}

// left answers what is left of n by 65536, as a number of layer 3.
func left(n int) int { return n & 65535 }

// nexts are numbers from which on some go round, and others.
func nexts() []int {
	return []int{0, 1, 5, 15, 16, 17, 255, 256, 32767, 32768, 32769, 65518, 65519, 65520, 65534, 65535}
}

func TestCheckTakesWhatIsRight(t *testing.T) { // P7.1
	for _, k := range known() {
		if e := ack.Check(k.l); e != api.OK {
			t.Errorf("Check(%v): %d", k.l, e)
		}
	}
	for _, which := range rows() {
		if e := ack.Check(some(which)); e != api.OK {
			t.Errorf("Check(%v): %d", some(which), e)
		}
	}
	for id := range api.MaxNodes {
		for _, a := range []api.Ack{{}, {Epoch: 1}, {Epoch: 4294967294}, {Epoch: 4294967295}, {Next: 1}, {Next: 65534}, {Next: 65535}, {Mask: 1}, {Mask: 65534}, {Mask: 65535}} {
			a.Id = id
			if e := ack.Check([]api.Ack{a}); e != api.OK {
				t.Errorf("Check of %v: %d", a, e)
			}
		}
	}
}

func TestWhatIsNotRightIsTurnedAway(t *testing.T) { // P7.1, R1
	for _, l := range wrong() {
		if e := ack.Check(l); e != api.ErrArg {
			t.Errorf("Check(%v): %d, want ErrArg", l, e)
		}
		if b, e := ack.Bytes(l); len(b) != 0 || e != api.ErrArg {
			t.Errorf("Bytes(%v): %x, %d, want none, ErrArg", l, b, e)
		}
	}
}

func TestBytesOfAcks(t *testing.T) { // P7.1
	for _, k := range known() {
		if b, e := ack.Bytes(k.l); string(b) != k.b || e != api.OK {
			t.Errorf("Bytes(%v): %x, %d, want %x", k.l, b, e, k.b)
		}
	}
}

func TestParseAnswersTheAcksAndThePlaceBehind(t *testing.T) { // P7.1
	for _, k := range known() {
		if l, at, e := ack.Parse([]byte(k.b), 0); !slices.Equal(l, k.l) || at != len(k.b) || e != api.OK {
			t.Errorf("Parse(%x): %v, %d, %d, want %v, %d", k.b, l, at, e, k.l, len(k.b))
		}
	}
}

// refused tells whether Parse answers this error, and noughts.
func refused(t *testing.T, b string, at int, want api.Errno) {
	t.Helper()
	if l, behind, e := ack.Parse([]byte(b), at); len(l) != 0 || behind != 0 || e != want {
		t.Errorf("Parse(%x, %d): %v, %d, %d, want noughts, %d", b, at, l, behind, e, want)
	}
}

func TestParseOfPlacesThatAreNone(t *testing.T) { // P7.1, R1
	for _, at := range []int{-1, -5, 11, 12, math.MinInt, math.MaxInt} {
		refused(t, known()[0].b, at, api.ErrArg)
	}
	refused(t, "", 1, api.ErrArg)
	refused(t, "", -1, api.ErrArg)
	if l, behind, e := ack.Parse(nil, 1); len(l) != 0 || behind != 0 || e != api.ErrArg {
		t.Errorf("Parse(nil, 1): %v, %d, %d", l, behind, e)
	}
}

func TestParseOfBytesThatAreLacking(t *testing.T) { // P7.1, R1
	refused(t, known()[0].b, 10, api.ErrMore)
	refused(t, known()[2].b, 2, api.ErrMore)
	if l, behind, e := ack.Parse(nil, 0); len(l) != 0 || behind != 0 || e != api.ErrMore {
		t.Errorf("Parse(nil, 0): %v, %d, %d", l, behind, e)
	}
	for _, k := range known() {
		for n := range k.b {
			refused(t, k.b[:n], 0, api.ErrMore)
			refused(t, "\x07\x07"+k.b[:n], 2, api.ErrMore)
			roomy := []byte(k.b)
			if l, behind, e := ack.Parse(roomy[:n], 0); len(l) != 0 || behind != 0 || e != api.ErrMore {
				t.Errorf("Parse of %d bytes of %x: %v, %d, %d", n, k.b, l, behind, e)
			}
		}
	}
}

func TestParseOfNone(t *testing.T) { // P7.1
	refused(t, "\x00", 0, api.ErrForm)
	refused(t, "\x00"+known()[2].b, 0, api.ErrForm)
	refused(t, "\x01\x00", 1, api.ErrForm)
}

// risen answers n acks' bytes, of the node 0 on, of noughts.
func risen(n int) string {
	var b []byte
	for id := range n {
		b = append(b, byte(id), 0, 0, 0, 0, 0, 0, 0, 0)
	}
	return string(b)
}

func TestParseReadsAsManyAcksAsAreTold(t *testing.T) { // P7.1
	for n := 1; n <= api.MaxNodes; n++ {
		b := string([]byte{byte(n)}) + risen(70)
		l, at, e := ack.Parse([]byte(b), 0)
		if len(l) != n || at != 1+9*n || e != api.OK {
			t.Errorf("%d acks: %v, %d, %d", n, l, at, e)
		}
		for i, a := range l {
			if a != (api.Ack{Id: i}) {
				t.Errorf("ack %d of %d: %v", i, n, a)
			}
		}
	}
}

func TestParseOfMoreAcksThanThereAreNodes(t *testing.T) { // P7.1
	for n := api.MaxNodes + 1; n < 256; n++ {
		b := string([]byte{byte(n)}) + risen(n)
		refused(t, b, 0, api.ErrForm)
		refused(t, b+"\x00", 0, api.ErrForm)
		refused(t, b[:len(b)-1], 0, api.ErrMore)
		refused(t, b[:1], 0, api.ErrMore)
	}
}

func TestParseOfAcksThatMayNotBe(t *testing.T) { // P7.1
	const others = "\x00\x00\x00\x02\x00\x05\x00\x03"
	for _, ids := range []string{
		"\x40", "\x41", "\x7f", "\x80", "\xff",
		"\x05\x40", "\x40\x41", "\x40\x05",
		"\x05\x05", "\x00\x00", "\x3f\x3f",
		"\x05\x04", "\x3f\x00",
		"\x01\x02\x02", "\x01\x01\x02", "\x01\x03\x02", "\x02\x01\x03", "\x01\x02\x01",
	} {
		b := string([]byte{byte(len(ids))})
		for i := range ids {
			b += ids[i:i+1] + others
		}
		for _, rest := range []string{"", "\x00", "\x3f" + others} {
			refused(t, b+rest, 0, api.ErrForm)
			refused(t, "\x00"+b+rest, 1, api.ErrForm)
		}
		// What is lacking behind an ack that may not be is told first.
		for n := range b {
			refused(t, b[:n], 0, api.ErrMore)
		}
	}
}

func TestParseDoesNotReadBehindTheAcks(t *testing.T) { // P7.1
	k := known()[2]
	for _, rest := range []string{"\x00", "\x05", "\x40\x00\x00\x00\x00\x00\x00\x00\x00", "\xff\xff\xff"} {
		if l, at, e := ack.Parse([]byte(k.b+rest), 0); !slices.Equal(l, k.l) || at != 10 || e != api.OK {
			t.Errorf("Parse(%x): %v, %d, %d", k.b+rest, l, at, e)
		}
	}
}

func TestOfTellsWhatCame(t *testing.T) { // P7.2
	for _, k := range []struct {
		next int
		came []int
		mask int
	}{
		{5, []int{7, 6, 30}, 3},
		{5, nil, 0},
		{5, []int{}, 0},
		{0, nil, 0},
		{65535, nil, 0},
		{5, []int{5}, 0},
		{5, []int{4, 3, 0, 65535}, 0},
		{5, []int{6}, 1},
		{5, []int{21}, 32768},
		{5, []int{22}, 0},
		{5, []int{21, 22, 20}, 32768 | 16384},
		{5, []int{9, 9, 9, 8, 9}, 8 | 4},
		{65535, []int{0, 15, 16, 65534, 65535}, 1 | 32768},
		{65534, []int{65535, 0, 14, 15}, 1 | 2 | 32768},
		{0, []int{1, 16, 17, 65535}, 1 | 32768},
		// As numbers of layer 3, whatever ints they are.
		{5, []int{65542, -65529, 6 + 1<<40}, 1 | 2},
		{65535, []int{65536, -65536, 65537, -65534}, 1 | 2 | 4},
		{0, []int{math.MinInt, math.MaxInt, math.MinInt + 3}, 4},
		{65535, []int{math.MinInt, math.MaxInt}, 1},
		{5, []int{6, 7, 8, 9, 10, 11, 12, 13, 14, 15, 16, 17, 18, 19, 20, 21}, 65535},
	} {
		if a, e := ack.Of(k.next, k.came); a != (api.Ack{Next: k.next, Mask: k.mask}) || e != api.OK {
			t.Errorf("Of(%d, %v): %v, %d, want mask %x", k.next, k.came, a, e, k.mask)
		}
	}
}

func TestOfEachNumberAlone(t *testing.T) { // P7.2
	for _, next := range nexts() {
		for behind := -40; behind <= 40; behind++ {
			want := 0
			if behind >= 1 && behind <= 16 {
				want = 1 << behind / 2
			}
			for _, n := range []int{next + behind, left(next + behind), next + behind - 65536, next + behind + 65536<<20} {
				if a, e := ack.Of(next, []int{n}); a != (api.Ack{Next: next, Mask: want}) || e != api.OK {
					t.Errorf("Of(%d, %d): %v, %d, want mask %x", next, n, a, e, want)
				}
			}
		}
	}
}

func TestOfTurnsAwayWhatIsNoNumber(t *testing.T) { // P7.2, R1
	for _, next := range []int{-1, -2, -65531, -65536, 65536, 65537, 65541, 1 << 20, math.MinInt, math.MaxInt} {
		for _, came := range [][]int{nil, {6}, {next, next + 1}, {-1, 1 << 40}} {
			if a, e := ack.Of(next, came); a != (api.Ack{}) || e != api.ErrArg {
				t.Errorf("Of(%d, %v): %v, %d, want noughts, ErrArg", next, came, a, e)
			}
		}
	}
}

func TestHasOfTheExample(t *testing.T) { // P7.2
	a, _ := ack.Of(5, []int{7, 6, 30})
	for n, want := range map[int]bool{4: true, 5: false, 6: true, 7: true, 8: false, 30: false, 0: true, 65535: true, 21: false} {
		if is := ack.Has(a, n); is != want {
			t.Errorf("Has(%v, %d): %v", a, n, is)
		}
	}
}

// hasAll tells of each number there is whether the ack must have it, as the chapter's words say.
func hasAll(next, mask int) []bool {
	has := make([]bool, 65536)
	for ahead := 1; ahead <= 32768; ahead++ {
		has[left(next-ahead)] = true
	}
	for k := 1; k <= 16; k++ {
		has[left(next+k)] = mask/(1<<k/2)%2 == 1
	}
	return has
}

func TestHasOfAllNumbers(t *testing.T) { // P7.2, P7.3
	for _, next := range nexts() {
		for _, mask := range []int{0, 1, 2, 0x5555, 0x8000, 0x8001, 0xfffe, 0xffff} {
			a := api.Ack{Id: 63, Epoch: 4294967295, Next: next, Mask: mask}
			for n, want := range hasAll(next, mask) {
				if is := ack.Has(a, n); is != want {
					t.Errorf("Has(%v, %d): %v", a, n, is)
				}
			}
		}
	}
}

func TestHasHalfTheWayRound(t *testing.T) { // P7.2
	for _, next := range nexts() {
		a := api.Ack{Next: next, Mask: 65535}
		for ahead, want := range map[int]bool{0: false, 1: true, 32767: true, 32768: true, 32769: false, 32770: false} {
			if is := ack.Has(a, left(next-ahead)); is != want {
				t.Errorf("Has(%v, %d ahead): %v", a, ahead, is)
			}
		}
	}
}

func TestHasTakesNumbersThatGoRound(t *testing.T) { // P7.2, R1
	for _, next := range nexts() {
		a := api.Ack{Next: next, Mask: 0xa5c3}
		has := hasAll(next, a.Mask)
		for _, n := range []int{-1, -2, -65535, -65536, -65537, 65536, 65537, 65536<<30 + 5, math.MinInt, math.MinInt + 1, math.MaxInt, math.MaxInt - 1} {
			if is := ack.Has(a, n); is != has[left(n)] {
				t.Errorf("Has(%v, %d): %v", a, n, is)
			}
		}
		for behind := -20; behind <= 20; behind++ {
			for _, n := range []int{next + behind - 65536, next + behind + 65536, next + behind - 65536<<20} {
				if is := ack.Has(a, n); is != has[left(next+behind)] {
					t.Errorf("Has(%v, %d): %v", a, n, is)
				}
			}
		}
	}
}

func TestWhatIsNotRightHasNone(t *testing.T) { // P7.2, R1
	for _, a := range wrongOnes() {
		for _, n := range []int{0, 4, 5, 6, 7, 65535, 65536, -1, a.Next, a.Next - 1, a.Next + 1, math.MinInt, math.MaxInt} {
			if ack.Has(a, n) {
				t.Errorf("Has(%v, %d): true", a, n)
			}
		}
	}
	for _, id := range []int{0, 5, 63} { // as they are but for the one thing
		if a := (api.Ack{Id: id, Epoch: 2, Next: 5, Mask: 3}); !ack.Has(a, 4) || !ack.Has(a, 6) {
			t.Errorf("Has(%v, 4 or 6): false", a)
		}
	}
}

func TestWhatHasBytesIsParsedAsItself(t *testing.T) { // P7.3
	for _, k := range known() {
		for lead := range 4 {
			b := strings.Repeat("\x01", lead) + k.b + "\xff\x01"
			if l, at, e := ack.Parse([]byte(b), lead); !slices.Equal(l, k.l) || at != lead+len(k.b) || e != api.OK {
				t.Errorf("Parse of %v behind %d: %v, %d, %d", k.l, lead, l, at, e)
			}
		}
	}
	var b []byte
	for _, which := range rows() {
		one, e := ack.Bytes(some(which))
		if e != api.OK {
			t.Fatalf("Bytes(%v): %d", some(which), e)
		}
		b = append(b, one...)
	}
	at := 0
	for _, which := range rows() {
		l, behind, e := ack.Parse(b, at)
		if !slices.Equal(l, some(which)) || e != api.OK {
			t.Fatalf("Parse at %d: %v, %d, want %v", at, l, e, some(which))
		}
		at = behind
	}
	if at != len(b) {
		t.Errorf("%d bytes of %d", at, len(b))
	}
}

// checkParsed tells whether what is parsed is right, and has the bytes that were read.
func checkParsed(t *testing.T, b []byte) {
	t.Helper()
	l, at, e := ack.Parse(b, 0)
	if e != api.OK {
		if len(l) != 0 || at != 0 || e != api.ErrForm && e != api.ErrMore {
			t.Errorf("Parse(%x): %v, %d, %d", b, l, at, e)
		}
		return
	}
	back, e := ack.Bytes(l)
	if e != api.OK || !bytes.Equal(back, b[:at]) {
		t.Errorf("Parse(%x): %v, %d, whose bytes are %x, %d", b, l, at, back, e)
	}
}

func TestWhatIsParsedHasTheBytesThatWereRead(t *testing.T) { // P7.1, P7.3, R1
	for _, k := range known() {
		for i := range min(len(k.b), 40) {
			for c := range 256 {
				b := []byte(k.b)
				b[i] = byte(c)
				checkParsed(t, b)
				checkParsed(t, append(b, risen(64)...))
			}
		}
	}
}

func TestOfHasWhatIsNearBehindAndNoOther(t *testing.T) { // P7.3
	for _, next := range nexts() {
		for step := 1; step <= 20; step++ {
			var came []int
			for n := next - 3*step; n < next+40; n += step {
				came = append(came, left(n*n+step))
			}
			for k := 1; k <= 20; k += step {
				came = append(came, next+k)
			}
			a, e := ack.Of(next, came)
			if e != api.OK || ack.Check([]api.Ack{a}) != api.OK {
				t.Fatalf("Of(%d, %v): %v, %d", next, came, a, e)
			}
			for k := 1; k <= 40; k++ {
				did := slices.ContainsFunc(came, func(n int) bool { return left(n) == left(next+k) })
				if is := ack.Has(a, left(next+k)); is != (did && k <= 16) {
					t.Errorf("Of(%d, %v) has %d behind: %v", next, came, k, is)
				}
			}
			if ack.Has(a, next) {
				t.Errorf("Of(%d, %v) has its Next", next, came)
			}
		}
	}
}

func TestNextItselfIsNeverThere(t *testing.T) { // P7.3
	for next := 0; next <= 65535; next += 37 {
		for _, came := range [][]int{nil, {next}, {next, next + 1, next - 1, next + 16}, {next + 65536, next - 65536}} {
			if a, e := ack.Of(next, came); e != api.OK || ack.Has(a, next) || ack.Has(a, next+65536) || ack.Has(a, next-65536) {
				t.Errorf("Of(%d, %v): %v, %d, has its Next", next, came, a, e)
			}
		}
		for _, mask := range []int{0, 1, 32768, 65535} {
			if ack.Has(api.Ack{Next: next, Mask: mask}, next) {
				t.Errorf("Next %d, Mask %x: has its Next", next, mask)
			}
		}
	}
}

func TestTheOrderOfWhatCameDoesNotMatter(t *testing.T) { // P7.2, R2
	came := []int{9, 3, 70000, 6, -65527, 21, 6, 22, 5}
	first, _ := ack.Of(5, came)
	for range came {
		came = append(came[1:], came[0])
		back := slices.Clone(came)
		slices.Reverse(back)
		if a, _ := ack.Of(5, came); a != first {
			t.Errorf("Of(5, %v): %v, want %v", came, a, first)
		}
		if a, _ := ack.Of(5, back); a != first {
			t.Errorf("Of(5, %v): %v, want %v", back, a, first)
		}
	}
}

func TestWhatIsHandedInStaysAsItIs(t *testing.T) { // R2
	room := every()
	came := []int{9, 3, 7, 6, 5, 65542, -1, 8, 1 << 40}
	was := slices.Clone(came)
	for n := range room {
		ack.Check(room[:n])
		ack.Bytes(room[:n])
	}
	for n := range came {
		ack.Of(5, came[:n])
		ack.Of(-1, came[:n])
	}
	if !slices.Equal(room, every()) || !slices.Equal(came, was) {
		t.Errorf("what was handed in is other: %v, %v", room, came)
	}
	for _, k := range known() {
		b := []byte(k.b + "\x01\x02\x03\x04")
		old := bytes.Clone(b)
		ack.Parse(b[:len(k.b)], 0)
		ack.Parse(b[:len(k.b)-1], 0)
		if !bytes.Equal(b, old) {
			t.Errorf("Parse wrote into what was handed in: %x, was %x", b, old)
		}
	}
}

func TestAnswersShareNoMemory(t *testing.T) { // R2
	for _, k := range known() {
		b, _ := ack.Bytes(k.l)
		l, _, _ := ack.Parse(b, 0)
		for i := range b {
			b[i] = 0xaa
		}
		if again, _ := ack.Bytes(k.l); string(again) != k.b || !slices.Equal(l, k.l) {
			t.Errorf("Bytes(%v) again: %x, want %x; parsed %v", k.l, again, k.b, l)
		}
		clear(l)
		if again, _, _ := ack.Parse([]byte(k.b), 0); !slices.Equal(again, k.l) {
			t.Errorf("Parse(%x) again: %v", k.b, again)
		}
	}
}

func TestCallsAtOneTimeDoNotMeet(t *testing.T) { // R2
	var workers sync.WaitGroup
	l := some(0x5a5a0ff0c3c3a5a5) // asked by all workers at one time
	turned := make([]int, 8)
	for k := range turned {
		workers.Go(func() {
			for i := range 300 {
				a, e := ack.Of(100*k+i, []int{100*k + i + 1 + k, 100*k + i + 16})
				if a.Mask != 1<<k|32768 || e != api.OK || !ack.Has(a, 100*k+i+1+k) || ack.Has(a, 100*k+i) {
					turned[k]++
				}
				a.Id = k
				b, _ := ack.Bytes([]api.Ack{a})
				if back, at, e := ack.Parse(b, 0); len(back) != 1 || back[0] != a || at != len(b) || e != api.OK {
					turned[k]++
				}
				b, _ = ack.Bytes(l)
				if back, at, e := ack.Parse(b, 0); !slices.Equal(back, l) || at != len(b) || e != api.OK {
					turned[k]++
				}
			}
		})
	}
	workers.Wait()
	for k, n := range turned {
		if n != 0 {
			t.Errorf("worker %d: %d answers of others", k, n)
		}
	}
}
