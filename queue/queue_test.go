package queue_test

import (
	"math"
	"runtime"
	"slices"
	"strings"
	"sync"
	"testing"
	"unsafe"
	"weak"

	"thalweg/api"
	"thalweg/queue"
)

// to is a packet for dst, told from others by its number.
func to(dst int, number int) api.Packet {
	return api.Packet{Src: 63 - dst, Dst: dst, Ttl: number % 256, Number: number, Data: strings.Repeat("x", number%257)}
}

// made is a queue of at most so many, with l.
func made(t *testing.T, most int, l ...api.Packet) *queue.Queue {
	t.Helper()
	q, e := queue.New(most)
	if q == nil || e != api.OK {
		t.Fatalf("New(%d): %v, %d", most, q, e)
	}
	for _, p := range l {
		if e := q.Put(p); e != api.OK {
			t.Fatalf("Put(%v): %d", p, e)
		}
	}
	return q
}

// turned is one without packets, whose ring begins n places on.
func turned(t *testing.T, most int, n int) *queue.Queue {
	t.Helper()
	q := made(t, most)
	for i := range n {
		if e := q.Put(to(7, i)); e != api.OK {
			t.Fatalf("Put: %d", e)
		}
		if p, e := q.Take(7); p != to(7, i) || e != api.OK {
			t.Fatalf("Take: %v, %d", p, e)
		}
	}
	return q
}

// holds asks q all there is to be asked without a change, want being what waits in it.
func holds(t *testing.T, q *queue.Queue, want []api.Packet) {
	t.Helper()
	if l := q.All(); !slices.Equal(l, want) {
		t.Fatalf("All: %v, want %v", l, want)
	}
	p, e := q.First()
	if len(want) == 0 && (p != api.Packet{} || e != api.ErrNone) {
		t.Fatalf("First of none: %v, %d", p, e)
	}
	if len(want) > 0 && (p != want[0] || e != api.OK) {
		t.Fatalf("First: %v, %d, want %v", p, e, want[0])
	}
	of := map[int]int{}
	for _, p := range want {
		of[p.Dst]++
	}
	for dst := -2; dst < 66; dst++ {
		if n := q.Count(dst); n != of[dst] {
			t.Fatalf("Count(%d): %d, want %d", dst, n, of[dst])
		}
	}
}

// nowhere are numbers for which no packet that is right is.
func nowhere() []int {
	return []int{-1, -2, -63, -64, math.MinInt, 64, 65, 127, 128, 255, 256, math.MaxInt}
}

// wrong are packets that are not right: each of one thing alone.
func wrong() []api.Packet {
	l := []api.Packet{{Ttl: -1}, {Ttl: 256}, {Number: -1}, {Number: 65536}, {Dst: 1, Data: strings.Repeat("x", 257)}}
	for _, n := range nowhere() {
		l = append(l, api.Packet{Src: n}, api.Packet{Dst: n})
	}
	return l
}

func TestNewIsWithoutPackets(t *testing.T) { // P10.1
	for most := 1; most <= 64; most++ {
		q := made(t, most)
		holds(t, q, nil)
		for _, dst := range append(nowhere(), 0, 1, 63) {
			if p, e := q.Take(dst); p != (api.Packet{}) || e != api.ErrNone {
				t.Errorf("Take(%d) of none: %v, %d", dst, p, e)
			}
			if n := q.Clear(dst); n != 0 {
				t.Errorf("Clear(%d) of none: %d", dst, n)
			}
		}
		holds(t, q, nil)
	}
}

func TestNewTurnsAwayWhatMayNotBe(t *testing.T) { // P10.1, R1
	for _, most := range []int{0, -1, -64, math.MinInt, 65, 66, 128, 256 + 1, math.MaxInt} {
		if q, e := queue.New(most); q != nil || e != api.ErrArg {
			t.Errorf("New(%d): %v, %d, want nil, ErrArg", most, q, e)
		}
	}
}

func TestNil(t *testing.T) { // P10.1, R1
	var q *queue.Queue
	for _, p := range append(wrong(), api.Packet{}, to(5, 9)) {
		if e := q.Put(p); e != api.ErrNil {
			t.Errorf("Put(%v): %d, want ErrNil", p, e)
		}
	}
	for _, dst := range append(nowhere(), 0, 63) {
		if p, e := q.Take(dst); p != (api.Packet{}) || e != api.ErrNil {
			t.Errorf("Take(%d): %v, %d, want noughts, ErrNil", dst, p, e)
		}
		if n := q.Count(dst); n != 0 {
			t.Errorf("Count(%d): %d", dst, n)
		}
		if n := q.Clear(dst); n != 0 {
			t.Errorf("Clear(%d): %d", dst, n)
		}
	}
	if p, e := q.First(); p != (api.Packet{}) || e != api.ErrNil {
		t.Errorf("First: %v, %d, want noughts, ErrNil", p, e)
	}
	if l := q.All(); len(l) != 0 {
		t.Errorf("All: %v", l)
	}
}

func TestExamplesOfTheChapter(t *testing.T) { // P10.1, P10.2
	q := made(t, 2, to(1, 1), to(2, 2))
	if e := q.Put(to(1, 3)); e != api.ErrFull {
		t.Errorf("the third one: %d, want ErrFull", e)
	}
	if p, e := q.Take(2); p != to(2, 2) || e != api.OK {
		t.Errorf("Take(2): %v, %d", p, e)
	}
	if p, e := q.Take(2); p != (api.Packet{}) || e != api.ErrNone {
		t.Errorf("Take(2) again: %v, %d, want noughts, ErrNone", p, e)
	}
	if n := q.Count(1); n != 1 {
		t.Errorf("Count(1): %d", n)
	}
	holds(t, q, []api.Packet{to(1, 1)})
}

func TestPutTillThereIsNoRoom(t *testing.T) { // P10.1
	for most := 1; most <= 64; most++ {
		for _, on := range []int{0, 1, 32, 63, 64, 100} {
			q := turned(t, most, on)
			var want []api.Packet
			for i := range most {
				want = append(want, to(i, 1000*i))
				if e := q.Put(want[i]); e != api.OK {
					t.Fatalf("%d of %d: %d", i, most, e)
				}
			}
			holds(t, q, want)
			for range 2 {
				if e := q.Put(to(9, 9)); e != api.ErrFull {
					t.Fatalf("one more than %d: %d, want ErrFull", most, e)
				}
			}
			holds(t, q, want)
		}
	}
}

func TestThereIsRoomAgain(t *testing.T) { // P10.1
	for most := 1; most <= 64; most++ {
		for at := range most {
			q := made(t, most)
			var want []api.Packet
			for i := range most {
				want = append(want, to(i, i))
				q.Put(want[i])
			}
			if p, e := q.Take(at); p != want[at] || e != api.OK {
				t.Fatalf("Take(%d) of %d: %v, %d", at, most, p, e)
			}
			want = append(slices.Delete(want, at, at+1), to(at, 77))
			if e := q.Put(to(at, 77)); e != api.OK {
				t.Fatalf("Put of %d: %d", most, e)
			}
			if e := q.Put(to(at, 78)); e != api.ErrFull {
				t.Fatalf("one more than %d: %d, want ErrFull", most, e)
			}
			holds(t, q, want)
		}
	}
}

func TestWrongPacketsDoNotWait(t *testing.T) { // P10.1, R1
	few := []api.Packet{to(1, 1), to(0, 2)}
	many := append(few, to(1, 3))
	for _, p := range wrong() {
		for _, l := range [][]api.Packet{nil, few, many} {
			q := made(t, 3, l...)
			if e := q.Put(p); e != api.ErrArg {
				t.Errorf("Put(%v) of %d: %d, want ErrArg", p, len(l), e)
			}
			holds(t, q, l)
		}
	}
}

func TestPacketsAreAlikeBehindTheirWait(t *testing.T) { // P10.2
	l := []api.Packet{{}, {Src: 63, Dst: 63, Ttl: 255, Number: 65535, Data: strings.Repeat("\xff", 256)}, {Src: 1, Dst: 2, Ttl: 3, Number: 4, Data: "\x00hi"}, {Dst: 5, Data: "\n"}}
	q := made(t, 4, l...)
	holds(t, q, l)
	for i, p := range l {
		if got, e := q.First(); got != p || e != api.OK {
			t.Errorf("First: %v, %d, want %v", got, e, p)
		}
		if got, e := q.Take(p.Dst); got != p || e != api.OK {
			t.Errorf("Take: %v, %d, want %v", got, e, p)
		}
		holds(t, q, l[i+1:])
	}
}

func TestTheSamePacketMayWaitTwice(t *testing.T) { // P10.1, P10.2
	p := to(4, 4)
	q := made(t, 3, p, p, p)
	holds(t, q, []api.Packet{p, p, p})
	if got, e := q.Take(4); got != p || e != api.OK {
		t.Errorf("Take: %v, %d", got, e)
	}
	holds(t, q, []api.Packet{p, p})
}

func TestTakeOfOneForWhichNoneWaits(t *testing.T) { // P10.2, R1
	l := []api.Packet{to(1, 1), to(63, 2), to(1, 3)}
	q := made(t, 64, l...)
	for _, dst := range append(nowhere(), 0, 2, 62) {
		if p, e := q.Take(dst); p != (api.Packet{}) || e != api.ErrNone {
			t.Errorf("Take(%d): %v, %d, want noughts, ErrNone", dst, p, e)
		}
		if n := q.Clear(dst); n != 0 {
			t.Errorf("Clear(%d): %d", dst, n)
		}
	}
	holds(t, q, l)
}

func TestPlacesThatAreFreeAreNoPackets(t *testing.T) { // P10.2
	for _, on := range []int{0, 1, 62, 63, 64, 130} {
		q := turned(t, 3, on)
		q.Put(api.Packet{})
		q.Put(to(5, 1))
		if p, e := q.Take(0); p != (api.Packet{}) || e != api.OK {
			t.Fatalf("Take of noughts: %v, %d", p, e)
		}
		if p, e := q.Take(0); p != (api.Packet{}) || e != api.ErrNone {
			t.Fatalf("Take of none: %v, %d", p, e)
		}
		holds(t, q, []api.Packet{to(5, 1)})
		if n := q.Clear(0); n != 0 {
			t.Fatalf("Clear of none: %d", n)
		}
		holds(t, q, []api.Packet{to(5, 1)})
	}
}

func TestClear(t *testing.T) { // P10.2
	for _, on := range []int{0, 5, 60, 63} {
		for places := range 64 { // by its bits, which of six are for 3
			q := turned(t, 6, on)
			var stay []api.Packet
			gone := 0
			for i := range 6 {
				p := to(10+i, i)
				if places>>i&1 == 1 {
					p = to(3, i)
					gone++
				} else {
					stay = append(stay, p)
				}
				q.Put(p)
			}
			if n := q.Clear(3); n != gone {
				t.Fatalf("Clear of %06b: %d, want %d", places, n, gone)
			}
			holds(t, q, stay)
			if n := q.Clear(3); n != 0 {
				t.Fatalf("Clear again: %d", n)
			}
			for i := range gone {
				stay = append(stay, to(3, 50+i))
				if e := q.Put(to(3, 50+i)); e != api.OK {
					t.Fatalf("Put behind Clear: %d", e)
				}
			}
			if e := q.Put(to(3, 60)); e != api.ErrFull {
				t.Fatalf("one more: %d, want ErrFull", e)
			}
			holds(t, q, stay)
		}
	}
}

func TestFirstStays(t *testing.T) { // P10.2
	l := []api.Packet{to(2, 1), to(1, 2)}
	q := made(t, 2, l...)
	for range 3 {
		if p, e := q.First(); p != l[0] || e != api.OK {
			t.Errorf("First: %v, %d", p, e)
		}
	}
	holds(t, q, l)
	q.Take(1)
	if p, e := q.First(); p != l[0] || e != api.OK {
		t.Errorf("First behind Take(1): %v, %d", p, e)
	}
}

// plain is a queue as a list, to hold a queue against.
type plain struct {
	l    []api.Packet
	most int
}

func (x *plain) put(p api.Packet) api.Errno {
	if len(x.l) == x.most {
		return api.ErrFull
	}
	x.l = append(x.l, p)
	return api.OK
}

func (x *plain) take(dst int) (api.Packet, api.Errno) {
	at := slices.IndexFunc(x.l, func(p api.Packet) bool { return p.Dst == dst })
	if at < 0 {
		return api.Packet{}, api.ErrNone
	}
	p := x.l[at]
	x.l = slices.Delete(x.l, at, at+1)
	return p, api.OK
}

func (x *plain) clear(dst int) int {
	before := len(x.l)
	x.l = slices.DeleteFunc(x.l, func(p api.Packet) bool { return p.Dst == dst })
	return before - len(x.l)
}

func TestAsAPlainListWould(t *testing.T) { // P10.1 to P10.3
	for most := 1; most <= 64; most++ {
		q, x := made(t, most), &plain{most: most}
		seed := uint32(most)
		roll := func(n int) int {
			seed = seed*1664525 + 1013904223
			return int(seed>>16) % n
		}
		for i := range 600 {
			dst := roll(5)
			switch what := roll(20); {
			case what < 10+3*(i/100%2):
				p := to(dst, i)
				if got, want := q.Put(p), x.put(p); got != want {
					t.Fatalf("%d, %d: Put: %d, want %d", most, i, got, want)
				}
			case what < 19:
				got, e := q.Take(dst)
				if want, f := x.take(dst); got != want || e != f {
					t.Fatalf("%d, %d: Take: %v, %d, want %v, %d", most, i, got, e, want, f)
				}
			default:
				if got, want := q.Clear(dst), x.clear(dst); got != want {
					t.Fatalf("%d, %d: Clear: %d, want %d", most, i, got, want)
				}
			}
			holds(t, q, x.l)
		}
	}
}

func TestPacketsForOneAreTakenInTurn(t *testing.T) { // P10.3
	q := made(t, 64)
	next := map[int]int{} // of each Dst, the number that is taken next
	put, taken := 0, 0
	for round := range 200 {
		for i := range 64 {
			dst := (i*i + round) % 7
			if e := q.Put(to(dst, round*64+i)); e == api.OK {
				put++
			}
		}
		for i := range 20 {
			dst := (round + i*3) % 7
			p, e := q.Take(dst)
			if e != api.OK {
				continue
			}
			taken++
			if p.Dst != dst || p.Number < next[dst] || p != to(dst, p.Number) {
				t.Fatalf("Take(%d): %v behind %d", dst, p, next[dst])
			}
			next[dst] = p.Number + 1
		}
		if n := len(q.All()); n != put-taken {
			t.Fatalf("%d wait, of %d put and %d taken", n, put, taken)
		}
		if round%10 == 9 {
			taken += q.Clear(round % 7)
		}
	}
	if taken < 2000 {
		t.Errorf("%d taken alone", taken)
	}
}

func TestListsOfAllAreTheirOwn(t *testing.T) { // R2
	l := []api.Packet{to(1, 1), to(2, 2), to(1, 3)}
	q := made(t, 5, l...)
	one, two := q.All(), q.All()
	for i := range one {
		one[i] = to(9, 9)
	}
	one = append(one, to(9, 9))
	holds(t, q, l)
	q.Take(1)
	q.Clear(2)
	q.Put(to(8, 8))
	q.Put(to(8, 9))
	if !slices.Equal(two, l) || one[3] != to(9, 9) {
		t.Errorf("lists that were handed out: %v, %v", one, two)
	}
	holds(t, q, []api.Packet{to(1, 3), to(8, 8), to(8, 9)})
}

func TestNothingIsKeptOfPacketsThatAreGone(t *testing.T) {
	for _, at := range []int{0, 1, 2} { // the place of the one that goes
		for _, clear := range []bool{false, true} {
			q := turned(t, 3, 62)
			var data weak.Pointer[byte]
			for i := range 3 {
				p := to(i, 256)
				if i == at {
					data = weak.Make(unsafe.StringData(p.Data))
				}
				q.Put(p)
			}
			if clear {
				q.Clear(at)
			} else {
				q.Take(at)
			}
			runtime.GC()
			if data.Value() != nil {
				t.Errorf("at %d, clear %v: the data of one that is gone is there", at, clear)
			}
			if n := len(q.All()); n != 2 {
				t.Errorf("%d wait", n)
			}
		}
	}
}

func TestQueuesDoNotMeet(t *testing.T) { // R2
	a, b := made(t, 2, to(1, 1)), made(t, 2, to(1, 2), to(2, 3))
	a.Take(1)
	a.Put(to(2, 4))
	b.Clear(2)
	holds(t, a, []api.Packet{to(2, 4)})
	holds(t, b, []api.Packet{to(1, 2)})
	var all sync.WaitGroup
	wrong := make([]int, 8)
	for k := range wrong {
		q := made(t, 8)
		all.Go(func() {
			for i := range 5000 {
				q.Put(to(k, i))
				q.Put(to(k+10, i))
				one, e := q.Take(k)
				if n := q.Clear(k + 10); one != to(k, i) || e != api.OK || n != 1 {
					wrong[k]++
				}
			}
		})
	}
	all.Wait()
	for k, n := range wrong {
		if n != 0 {
			t.Errorf("worker %d: %d answers of others", k, n)
		}
	}
}
