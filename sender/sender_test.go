package sender_test

import (
	"math"
	"slices"
	"sync"
	"testing"

	"thalweg/api"
	"thalweg/object"
	"thalweg/sender"
)

// made is a sender.
func made(t *testing.T, window, tries int) *sender.Sender {
	t.Helper()
	s, e := sender.New(window, tries)
	if s == nil || e != api.OK {
		t.Fatalf("New(%d, %d): %v, %d", window, tries, s, e)
	}
	return s
}

func qry(dest int) api.Object { return api.Object{Kind: api.Qry, Dest: dest % api.MaxNodes} }

// nth is an object that is right, of a kind and of a size that turn with n.
func nth(n int) api.Object {
	dest, id := n/4%api.MaxNodes, n/7%api.MaxNodes
	switch n % 5 {
	case 0:
		return qry(dest)
	case 1:
		return api.Object{Kind: api.Upd, Dest: dest, Height: api.Height{Null: true, Id: id}}
	case 2:
		return api.Object{Kind: api.Upd, Dest: dest, Height: api.Height{Tau: n, Oid: id, R: n / 2 % 2, Delta: -n, Id: id}}
	case 3:
		return api.Object{Kind: api.Clr, Dest: dest, Level: api.Level{Tau: n, Oid: id, R: 1}}
	}
	return api.Object{Kind: api.Opt, Dest: dest, Height: api.Height{Delta: n, Id: id}, Number: n % 65536}
}

// big is an Opt, of which 21 have room in a batch.
func big(n int) api.Object {
	return api.Object{Kind: api.Opt, Dest: 63, Height: api.Height{Tau: api.MaxTau, Oid: 63, R: 1, Delta: -api.MaxDelta, Id: 63}, Number: n}
}

// row is the objects of from to less than to.
func row(of func(n int) api.Object, from, to int) []api.Object {
	var l []api.Object
	for n := from; n < to; n++ {
		l = append(l, of(n))
	}
	return l
}

// push pushes l, for which there is room.
func push(t *testing.T, s *sender.Sender, l ...api.Object) {
	t.Helper()
	for _, o := range l {
		if e := s.Push(o); e != api.OK {
			t.Fatalf("Push(%v): %d", o, e)
		}
	}
}

// out lets n batches be out, of one Qry each.
func out(t *testing.T, s *sender.Sender, n int) {
	t.Helper()
	for i := range n {
		push(t, s, qry(i))
		if l := s.Send(); len(l) != 1 || len(l[0].Objects) != 1 {
			t.Fatalf("Send of one: %v", l)
		}
	}
}

func alike(a, b []api.Batch) bool {
	return slices.EqualFunc(a, b, func(x, y api.Batch) bool {
		return x.Number == y.Number && slices.Equal(x.Objects, y.Objects)
	})
}

func numbers(l []api.Batch) []int {
	var n []int
	for _, x := range l {
		n = append(n, x.Number)
	}
	return n
}

func objects(l []api.Batch) []api.Object {
	var o []api.Object
	for _, x := range l {
		o = append(o, x.Objects...)
	}
	return o
}

// sends asks for the numbers of what Send answers.
func sends(t *testing.T, s *sender.Sender, want ...int) {
	t.Helper()
	if l := s.Send(); !slices.Equal(numbers(l), want) {
		t.Fatalf("Send: %v, want %v", l, want)
	}
}

// isOut asks for the numbers of what is out.
func isOut(t *testing.T, s *sender.Sender, want ...int) {
	t.Helper()
	if l := s.Out(); !slices.Equal(numbers(l), want) {
		t.Fatalf("Out: %v, want %v", l, want)
	}
}

// again asks for the numbers of what is sent again.
func again(t *testing.T, s *sender.Sender, want ...int) {
	t.Helper()
	before := s.Out()
	l, ok := s.Again()
	if !slices.Equal(numbers(l), want) || !ok {
		t.Fatalf("Again: %v, %v, want %v, true", l, ok, want)
	}
	if !alike(l, before) || !alike(s.Out(), before) {
		t.Fatalf("Again: %v, and %v are out, want %v", l, s.Out(), before)
	}
}

// tooOften asks for the refusal of Again, by which nothing turns.
func tooOften(t *testing.T, s *sender.Sender) {
	t.Helper()
	before := s.Out()
	if l, ok := s.Again(); len(l) != 0 || ok {
		t.Fatalf("Again: %v, %v, want none, false", l, ok)
	}
	if !alike(s.Out(), before) {
		t.Fatalf("%v are out, want %v", s.Out(), before)
	}
}

// got asks how many came, and which ones are out behind that.
func got(t *testing.T, s *sender.Sender, a api.Ack, want int, left ...int) {
	t.Helper()
	if n := s.Got(a); n != want {
		t.Fatalf("Got(%v): %d, want %d", a, n, want)
	}
	isOut(t, s, left...)
}

// holds asks for what waits, and for what is out.
func holds(t *testing.T, s *sender.Sender, out []api.Batch, wait []api.Object) {
	t.Helper()
	if l := s.Out(); !alike(l, out) {
		t.Fatalf("Out: %v, want %v", l, out)
	}
	if l := s.Wait(); !slices.Equal(l, wait) {
		t.Fatalf("Wait: %v, want %v", l, wait)
	}
}

// wrongObjects are objects that are not right, each of one thing alone.
func wrongObjects() []api.Object {
	one := api.Height{Id: 1}
	l := []api.Object{
		{}, {Dest: 5}, {Kind: -1}, {Kind: 5}, {Kind: 256 + api.Qry}, {Kind: math.MinInt}, {Kind: math.MaxInt},
		{Kind: api.Qry, Height: one}, {Kind: api.Qry, Height: api.Height{Null: true}}, {Kind: api.Qry, Level: api.Level{R: 1}}, {Kind: api.Qry, Number: 1},
		{Kind: api.Upd, Height: api.Height{Null: true, Tau: 1}}, {Kind: api.Upd, Height: api.Height{R: 2}}, {Kind: api.Upd, Height: one, Level: api.Level{Oid: 1}}, {Kind: api.Upd, Height: one, Number: 1},
		{Kind: api.Clr, Level: api.Level{Tau: -1}}, {Kind: api.Clr, Level: api.Level{Oid: 64}}, {Kind: api.Clr, Level: api.Level{R: 2}}, {Kind: api.Clr, Height: one}, {Kind: api.Clr, Number: 1},
		{Kind: api.Opt, Height: api.Height{Null: true, Id: 1}}, {Kind: api.Opt, Height: one, Number: -1}, {Kind: api.Opt, Height: one, Number: 65536}, {Kind: api.Opt, Height: one, Level: api.Level{Tau: 1}}, {Kind: api.Opt, Height: api.Height{Delta: api.MaxDelta + 1}},
	}
	for _, dest := range []int{-1, 64, 255, 256, math.MinInt, math.MaxInt} {
		l = append(l, api.Object{Kind: api.Qry, Dest: dest}, api.Object{Kind: api.Upd, Dest: dest}, api.Object{Kind: api.Clr, Dest: dest}, api.Object{Kind: api.Opt, Dest: dest, Height: one})
	}
	return l
}

// wrongAcks are acks that are not right, each of one thing alone, which but for that have all that are out.
func wrongAcks(next int) []api.Ack {
	var l []api.Ack
	for _, id := range []int{-1, 64, 255, 256, math.MinInt, math.MaxInt} {
		l = append(l, api.Ack{Id: id, Next: next})
	}
	for _, epoch := range []int{-1, api.MaxWord + 1, math.MinInt, math.MaxInt} {
		l = append(l, api.Ack{Epoch: epoch, Next: next})
	}
	for _, round := range []int{-65536, 65536, 1 << 32, -1 << 62} {
		l = append(l, api.Ack{Next: next + round})
	}
	for _, mask := range []int{-1, 65536, 65537, math.MinInt, math.MaxInt} {
		l = append(l, api.Ack{Next: next, Mask: mask})
	}
	return l
}

func TestNew(t *testing.T) { // P14.1
	for window := 1; window <= api.MaxWindow; window++ {
		for _, tries := range []int{1, 2, 50, 99, 100} {
			s := made(t, window, tries)
			holds(t, s, nil, nil)
			sends(t, s)
			again(t, s)
			got(t, s, api.Ack{Mask: 65535}, 0)
			holds(t, s, nil, nil)
		}
	}
}

func TestNewOfWrongNumbers(t *testing.T) { // P14.1, R1
	wrong := func(window, tries int) {
		t.Helper()
		if s, e := sender.New(window, tries); s != nil || e != api.ErrArg {
			t.Errorf("New(%d, %d): %v, %d, want nil, ErrArg", window, tries, s, e)
		}
	}
	for _, window := range []int{0, -1, -16, math.MinInt, 17, 18, 32, 256 + 1, math.MaxInt} {
		wrong(window, 1)
		wrong(window, 100)
	}
	for _, tries := range []int{0, -1, -100, math.MinInt, 101, 102, 256 + 1, math.MaxInt} {
		wrong(1, tries)
		wrong(16, tries)
	}
	wrong(0, 0)
	wrong(17, 101)
}

func TestNilSender(t *testing.T) { // P14.1, R1
	var s *sender.Sender
	for _, o := range append(wrongObjects(), row(nth, 0, 5)...) {
		if e := s.Push(o); e != api.ErrNil {
			t.Errorf("Push(%v): %d, want ErrNil", o, e)
		}
	}
	for _, a := range append(wrongAcks(1), api.Ack{}, api.Ack{Next: 1, Mask: 65535}) {
		if n := s.Got(a); n != 0 {
			t.Errorf("Got(%v): %d", a, n)
		}
	}
	again(t, s)
	sends(t, s)
	holds(t, s, nil, nil)
}

func TestPush(t *testing.T) { // P14.1
	s := made(t, 1, 1)
	for n := range 40 {
		push(t, s, nth(n))
		holds(t, s, nil, row(nth, 0, n+1))
	}
	push(t, s, nth(3), nth(3))
	holds(t, s, nil, append(row(nth, 0, 40), nth(3), nth(3)))
}

func TestPushTillThereIsNoRoom(t *testing.T) { // P14.1
	s := made(t, 2, 1)
	push(t, s, row(nth, 0, api.MaxWait)...)
	full := func(wait []api.Object) {
		t.Helper()
		out := s.Out()
		for range 2 {
			if e := s.Push(nth(5)); e != api.ErrFull {
				t.Fatalf("one more: %d, want ErrFull", e)
			}
		}
		holds(t, s, out, wait)
	}
	full(row(nth, 0, api.MaxWait))
	gone := len(objects(s.Send()))
	if gone == 0 {
		t.Fatal("none is out")
	}
	push(t, s, row(nth, api.MaxWait, api.MaxWait+gone)...)
	full(row(nth, gone, api.MaxWait+gone))
	if n := s.Got(api.Ack{Next: 2}); n != 2 {
		t.Fatalf("Got: %d", n)
	}
	full(row(nth, gone, api.MaxWait+gone))
}

func TestWrongObjectsDoNotWait(t *testing.T) { // P14.1, R1
	for _, count := range []int{0, 3, api.MaxWait - 1, api.MaxWait} {
		s := made(t, 1, 1)
		push(t, s, row(nth, 0, count)...)
		for _, o := range wrongObjects() {
			if e := s.Push(o); e != api.ErrArg {
				t.Errorf("Push(%v) behind %d: %d, want ErrArg", o, count, e)
			}
		}
		holds(t, s, nil, row(nth, 0, count))
	}
}

func TestTheExample(t *testing.T) { // P14.1 to P14.3
	s := made(t, 1, 2)
	push(t, s, qry(5))
	it := []api.Batch{{Number: 0, Objects: []api.Object{qry(5)}}}
	if l := s.Send(); !alike(l, it) {
		t.Errorf("Send: %v, want %v", l, it)
	}
	if l, ok := s.Again(); !alike(l, it) || !ok {
		t.Errorf("Again: %v, %v, want %v, true", l, ok, it)
	}
	tooOften(t, s)
	got(t, s, api.Ack{Next: 1}, 1)
	again(t, s)
}

// fits are how many of l have room in one batch: 512 bytes, three of which are its head, and 32 objects.
func fits(l []api.Object) int {
	bytes := 3
	for i, o := range l {
		bytes += object.Size(o)
		if bytes > 512 || i == 32 {
			return i
		}
	}
	return len(l)
}

func TestSendPacksWhatWaits(t *testing.T) { // P14.2
	for _, of := range []func(n int) api.Object{qry, nth, big} {
		for _, count := range []int{0, 1, 20, 21, 22, 31, 32, 33, 42, 43, 64, 65, 200, 1023, 1024} {
			s := made(t, 16, 1)
			l := row(of, 0, count)
			push(t, s, l...)
			var want []api.Batch
			for n := 0; n < 16 && len(l) > 0; n++ {
				first := fits(l)
				want = append(want, api.Batch{Number: n, Objects: l[:first]})
				l = l[first:]
			}
			if sent := s.Send(); !alike(sent, want) {
				t.Fatalf("Send of %d: %v, want %v", count, sent, want)
			}
			holds(t, s, want, l)
		}
	}
}

func TestSendOfWhatComesBehind(t *testing.T) { // P14.2
	s := made(t, 3, 1)
	var want []api.Batch
	for n := range 3 {
		l := row(nth, 10*n, 10*n+4)
		push(t, s, l...)
		one := api.Batch{Number: n, Objects: l}
		want = append(want, one)
		if sent := s.Send(); !alike(sent, []api.Batch{one}) {
			t.Fatalf("Send: %v, want %v", sent, one)
		}
		sends(t, s)
		holds(t, s, want, nil)
	}
	push(t, s, nth(1), nth(2))
	sends(t, s)
	holds(t, s, want, []api.Object{nth(1), nth(2)})
}

func TestWindows(t *testing.T) { // P14.2, P14.4
	for window := 1; window <= api.MaxWindow; window++ {
		s := made(t, window, 1)
		var want []int
		push(t, s, row(qry, 0, 1024)...)
		for n := range window {
			want = append(want, n)
		}
		sends(t, s, want...)
		sends(t, s)
		isOut(t, s, want...)
		for n := window; n < 32; n++ {
			got(t, s, api.Ack{Next: n - window + 1}, 1, want[1:]...)
			sends(t, s, n)
			sends(t, s)
			want = append(want[1:], n)
			isOut(t, s, want...)
			if l := s.Wait(); len(l) != 1024-32*(n+1) {
				t.Fatalf("window %d: %d wait behind %d", window, len(l), n)
			}
		}
		got(t, s, api.Ack{Next: 32}, window)
		sends(t, s)
	}
}

func TestAWindowIsFilledUp(t *testing.T) { // P14.2
	for window := 1; window <= api.MaxWindow; window++ {
		for first := range window + 1 {
			s := made(t, window, 1)
			out(t, s, first)
			push(t, s, row(qry, 0, 1024)...)
			var want []int
			for n := first; n < window; n++ {
				want = append(want, n)
			}
			sends(t, s, want...)
			if l := s.Wait(); len(l) != 1024-32*len(want) {
				t.Fatalf("window %d, %d out: %d wait", window, first, len(l))
			}
		}
	}
}

func TestTheFirstOneHoldsTheWindow(t *testing.T) { // P14.2
	s := made(t, 4, 1)
	push(t, s, row(qry, 0, 400)...)
	sends(t, s, 0, 1, 2, 3)
	got(t, s, api.Ack{Next: 0, Mask: 0b111}, 3, 0)
	sends(t, s)
	got(t, s, api.Ack{Next: 1}, 1)
	sends(t, s, 4, 5, 6, 7)
	got(t, s, api.Ack{Next: 4, Mask: 0b010}, 1, 4, 5, 7)
	sends(t, s)
	got(t, s, api.Ack{Next: 5}, 1, 5, 7)
	sends(t, s, 8)
	got(t, s, api.Ack{Next: 6}, 1, 7, 8)
	sends(t, s, 9, 10)
	got(t, s, api.Ack{Next: 7, Mask: 0b101}, 2, 7, 9)
	sends(t, s)
	got(t, s, api.Ack{Next: 7, Mask: 0b011}, 1, 7)
	sends(t, s)
	holds(t, s, []api.Batch{{Number: 7, Objects: row(qry, 224, 256)}}, row(qry, 352, 400))
	got(t, s, api.Ack{Next: 11}, 1)
	sends(t, s, 11, 12)
}

func TestNumbersGoOnWhereNoneIsOut(t *testing.T) { // P14.2
	s := made(t, 2, 1)
	for n := range 300 {
		sends(t, s)
		push(t, s, qry(n))
		sends(t, s, n)
		got(t, s, api.Ack{Next: n + 1}, 1)
	}
}

func TestNumbersGoRound(t *testing.T) { // P14.2, P14.3, R5
	for _, window := range []int{1, 5, 16} {
		s := made(t, window, 2)
		n := 0
		for n < 65528 {
			push(t, s, qry(n))
			sends(t, s, n)
			n++
			if s.Got(api.Ack{Next: n}) != 1 {
				t.Fatalf("%d did not come", n-1)
			}
		}
		push(t, s, row(qry, 0, 1024)...)
		var want []int
		for range window {
			want = append(want, n%65536)
			n++
		}
		sends(t, s, want...)
		sends(t, s)
		again(t, s, want...)
		tooOften(t, s)
		got(t, s, api.Ack{Next: 65528, Mask: 0}, 0, want...)
		got(t, s, api.Ack{Next: (n + 1) % 65536}, 0, want...)
		got(t, s, api.Ack{Next: 65527, Mask: 65535}, 0, want...)
		if window > 1 {
			got(t, s, api.Ack{Next: want[1]}, 1, want[1:]...)
			sends(t, s, n%65536)
			n++
			want = append(want[1:], (n-1)%65536)
			got(t, s, api.Ack{Next: want[0], Mask: 1 << (window - 2)}, 1, want[:window-1]...)
			sends(t, s)
			want = want[:window-1]
		}
		got(t, s, api.Ack{Next: n % 65536}, len(want))
		sends(t, s, func() []int {
			var l []int
			for i := range min(window, len(s.Wait())/32) {
				l = append(l, (n+i)%65536)
			}
			return l
		}()...)
	}
}

func TestAgainTillItIsTooOften(t *testing.T) { // P14.3
	for _, tries := range []int{1, 2, 3, 50, 99, 100} {
		for _, window := range []int{1, 2, 16} {
			s := made(t, window, tries)
			push(t, s, row(qry, 0, 1024)...)
			all := numbers(s.Send())
			for range tries - 1 {
				again(t, s, all...)
			}
			for range 3 {
				tooOften(t, s)
			}
			if n := s.Got(api.Ack{Next: window}); n != window {
				t.Fatalf("Got: %d, want %d", n, window)
			}
			again(t, s)
		}
	}
}

func TestEachBatchIsCountedByItself(t *testing.T) { // P14.3
	s := made(t, 3, 4)
	out(t, s, 1)
	again(t, s, 0)
	again(t, s, 0)
	out(t, s, 1)
	again(t, s, 0, 1)
	for range 5 {
		tooOften(t, s)
	}
	out(t, s, 1)
	tooOften(t, s)
	got(t, s, api.Ack{Next: 1}, 1, 1, 2)
	again(t, s, 1, 2)
	again(t, s, 1, 2)
	tooOften(t, s)
	got(t, s, api.Ack{Next: 1}, 0, 1, 2)
	tooOften(t, s)
	got(t, s, api.Ack{Next: 2}, 1, 2)
	again(t, s, 2)
	tooOften(t, s)
	got(t, s, api.Ack{Next: 3}, 1)
	again(t, s)
	again(t, s)
}

func TestOneBehindMayBeTheOneThatIsTooOften(t *testing.T) { // P14.3
	s := made(t, 4, 3)
	out(t, s, 2)
	again(t, s, 0, 1)
	got(t, s, api.Ack{Next: 1}, 1, 1)
	out(t, s, 2)
	again(t, s, 1, 2, 3)
	got(t, s, api.Ack{Next: 1, Mask: 1}, 1, 1, 3)
	tooOften(t, s)
	got(t, s, api.Ack{Next: 2}, 1, 3)
	again(t, s, 3)
	tooOften(t, s)
}

func TestSendingDoesNotCountAnew(t *testing.T) { // P14.3
	s := made(t, 3, 3)
	out(t, s, 1)
	again(t, s, 0)
	sends(t, s)
	sends(t, s)
	s.Out()
	s.Wait()
	push(t, s, qry(1))
	got(t, s, api.Ack{Next: 0}, 0, 0)
	again(t, s, 0)
	tooOften(t, s)
	sends(t, s, 1)
	tooOften(t, s)
}

func TestGotByNext(t *testing.T) { // P14.3
	for next := range 9 {
		s := made(t, 8, 1)
		out(t, s, 8)
		var left []int
		for n := next; n < 8; n++ {
			left = append(left, n)
		}
		got(t, s, api.Ack{Id: 63, Epoch: api.MaxWord, Next: next}, next, left...)
		got(t, s, api.Ack{Next: next}, 0, left...)
	}
}

func TestGotByMask(t *testing.T) { // P14.3
	for _, next := range []int{0, 1, 2} {
		for mask := range 256 {
			s := made(t, 8, 1)
			out(t, s, 8)
			var left []int
			for n := range 8 {
				if n == next || n > next && mask>>(n-next-1)&1 == 0 {
					left = append(left, n)
				}
			}
			got(t, s, api.Ack{Next: next, Mask: mask}, 8-len(left), left...)
		}
	}
	s := made(t, 16, 1)
	out(t, s, 16)
	got(t, s, api.Ack{Mask: 1 << 15}, 0, 0, 1, 2, 3, 4, 5, 6, 7, 8, 9, 10, 11, 12, 13, 14, 15)
	got(t, s, api.Ack{Mask: 1 << 14}, 1, 0, 1, 2, 3, 4, 5, 6, 7, 8, 9, 10, 11, 12, 13, 14)
	got(t, s, api.Ack{Mask: 65535}, 14, 0)
	got(t, s, api.Ack{Mask: 65535}, 0, 0)
}

func TestGotOfANextThatIsTooFar(t *testing.T) { // P14.3
	s := made(t, 8, 1)
	out(t, s, 5)
	got(t, s, api.Ack{Next: 2}, 2, 2, 3, 4)
	for _, next := range []int{6, 7, 8, 1000, 32767, 32768, 32769, 32770, 32773, 65534, 65535, 0, 1} {
		for _, mask := range []int{0, 1, 2, 7, 65535} {
			got(t, s, api.Ack{Next: next, Mask: mask}, 0, 2, 3, 4)
		}
	}
	got(t, s, api.Ack{Next: 2, Mask: 0}, 0, 2, 3, 4)
	got(t, s, api.Ack{Next: 5, Mask: 65535}, 3)
}

func TestGotIsFromTheFirstOneThatIsOut(t *testing.T) { // P14.3
	s := made(t, 8, 1)
	out(t, s, 6)
	got(t, s, api.Ack{Mask: 0b10100}, 2, 0, 1, 2, 4)
	got(t, s, api.Ack{Next: 1, Mask: 1}, 2, 1, 4)
	got(t, s, api.Ack{Next: 0, Mask: 0b11111}, 0, 1, 4)
	got(t, s, api.Ack{Next: 1, Mask: 0b100}, 1, 1)
	got(t, s, api.Ack{Next: 7}, 0, 1)
	got(t, s, api.Ack{Next: 6}, 1)
}

func TestGotWhereNoneIsOut(t *testing.T) { // P14.3
	s := made(t, 2, 1)
	out(t, s, 2)
	got(t, s, api.Ack{Next: 2}, 2)
	push(t, s, qry(1), qry(2))
	for _, next := range []int{0, 1, 2, 3, 32770, 65535} {
		got(t, s, api.Ack{Next: next, Mask: 65535}, 0)
	}
	holds(t, s, nil, []api.Object{qry(1), qry(2)})
	sends(t, s, 2)
}

func TestGotOfWrongAcks(t *testing.T) { // P14.3, R1
	s := made(t, 3, 2)
	out(t, s, 2)
	push(t, s, qry(9))
	before := s.Out()
	for _, a := range wrongAcks(2) {
		got(t, s, a, 0, 0, 1)
	}
	for _, next := range []int{-1, -2, math.MinInt, math.MaxInt} {
		got(t, s, api.Ack{Next: next}, 0, 0, 1)
	}
	holds(t, s, before, []api.Object{qry(9)})
	again(t, s, 0, 1)
	got(t, s, api.Ack{Next: 2}, 2)
}

// one is a batch that is out of a plain sender.
type one struct {
	batch api.Batch
	times int
}

// plain is a sender whose numbers do not go round, to hold a sender against.
type plain struct {
	window, tries, next int
	wait                []api.Object
	out                 []one
}

func (p *plain) batches() []api.Batch {
	var l []api.Batch
	for _, x := range p.out {
		l = append(l, x.batch)
	}
	return l
}

func (p *plain) push(o api.Object) api.Errno {
	if len(p.wait) == 1024 {
		return api.ErrFull
	}
	p.wait = append(p.wait, o)
	return api.OK
}

func (p *plain) send() []api.Batch {
	before := len(p.out)
	for len(p.wait) > 0 && (len(p.out) == 0 || p.next-p.out[0].batch.Number < p.window) {
		n := fits(p.wait)
		p.out = append(p.out, one{api.Batch{Number: p.next, Objects: p.wait[:n]}, 1})
		p.wait = p.wait[n:]
		p.next++
	}
	return p.batches()[before:]
}

func (p *plain) again() ([]api.Batch, bool) {
	if slices.ContainsFunc(p.out, func(x one) bool { return x.times == p.tries }) {
		return nil, false
	}
	for i := range p.out {
		p.out[i].times++
	}
	return p.batches(), true
}

func (p *plain) got(a api.Ack) int {
	before := len(p.out)
	if before == 0 || a.Next < p.out[0].batch.Number || a.Next > p.next {
		return 0
	}
	p.out = slices.DeleteFunc(p.out, func(x one) bool {
		behind := x.batch.Number - a.Next
		return behind < 0 || behind > 0 && a.Mask>>(behind-1)&1 == 1
	})
	return before - len(p.out)
}

// roller is a row of numbers by which tests choose.
type roller uint32

func (r *roller) roll(n int) int {
	*r = *r*1664525 + 1013904223
	return int(*r>>8) % n
}

// move lets both do the same, as the roller has it.
func move(t *testing.T, r *roller, s *sender.Sender, p *plain) {
	t.Helper()
	switch what := r.roll(10); {
	case what < 4:
		for range r.roll(60) {
			o := nth(r.roll(5000))
			want := p.push(o)
			if e := s.Push(o); e != want {
				t.Fatalf("Push(%v): %d, want %d", o, e, want)
			}
		}
	case what < 6:
		want := p.send()
		if l := s.Send(); !alike(l, want) {
			t.Fatalf("Send: %v, want %v", l, want)
		}
	case what < 7:
		want, ok := p.again()
		if l, is := s.Again(); !alike(l, want) || is != ok {
			t.Fatalf("Again: %v, %v, want %v, %v", l, is, want, ok)
		}
	default:
		a := api.Ack{Id: r.roll(64), Epoch: r.roll(9), Next: max(0, p.next+2-r.roll(p.window+6)), Mask: r.roll(65536) & r.roll(65536)}
		want := p.got(a)
		if n := s.Got(a); n != want {
			t.Fatalf("Got(%v): %d, want %d", a, n, want)
		}
	}
}

func TestAsAPlainSenderWould(t *testing.T) { // P14.1 to P14.3
	r := roller(14)
	for window := 1; window <= api.MaxWindow; window++ {
		for _, tries := range []int{1, 2, 5, 100} {
			s, p := made(t, window, tries), &plain{window: window, tries: tries}
			for range 300 {
				move(t, &r, s, p)
				holds(t, s, p.batches(), p.wait)
			}
		}
	}
}

func TestObjectsAreSentAsTheyWerePushed(t *testing.T) { // P14.4
	r := roller(4)
	for window := 1; window <= api.MaxWindow; window++ {
		s := made(t, window, 1)
		var sent []api.Object
		pushed, next := 0, 0
		for pushed < 4000 {
			for range r.roll(100) {
				if s.Push(nth(pushed)) == api.OK {
					pushed++
				}
			}
			l := s.Send()
			next += len(l)
			sent = append(sent, objects(l)...)
			if n := len(s.Out()); n > window {
				t.Fatalf("%d are out, of window %d", n, window)
			}
			if n := len(sent) + len(s.Wait()); n != pushed {
				t.Fatalf("%d sent and waiting, of %d", n, pushed)
			}
			s.Got(api.Ack{Next: max(0, next-r.roll(window+1)), Mask: r.roll(65536)})
		}
		if !slices.Equal(append(sent, s.Wait()...), row(nth, 0, pushed)) {
			t.Fatalf("window %d: not as they were pushed", window)
		}
	}
}

func TestWhatIsOutAndWhatWaitsIsInTurn(t *testing.T) { // P14.4
	for window := 1; window <= api.MaxWindow; window++ {
		s := made(t, window, 2)
		pushed := row(nth, 0, 1024)
		push(t, s, pushed...)
		for round := range 3 {
			s.Send()
			s.Again()
			if all := append(objects(s.Out()), s.Wait()...); !slices.Equal(all, pushed) {
				t.Fatalf("window %d, round %d: %v, want %v", window, round, all, pushed)
			}
			more := row(nth, 2000+100*round, 2010+100*round)
			push(t, s, more...)
			pushed = append(pushed, more...)
		}
	}
}

// spoil writes into all of l, and into its spare room.
func spoil(l []api.Batch) {
	for i := range l {
		for j := range l[i].Objects {
			l[i].Objects[j] = api.Object{Kind: 77}
		}
		_ = append(l[i].Objects, api.Object{Kind: 78}, api.Object{Kind: 79})
		l[i] = api.Batch{Number: 99}
	}
	_ = append(l, api.Batch{Number: 98}, api.Batch{Number: 97})
}

func TestBatchesAreTheirOwn(t *testing.T) { // R2
	s := made(t, 3, 100)
	push(t, s, row(big, 0, 60)...)
	want := []api.Batch{{Number: 0, Objects: row(big, 0, 21)}, {Number: 1, Objects: row(big, 21, 42)}, {Number: 2, Objects: row(big, 42, 60)}}
	calls := []func() []api.Batch{s.Send, s.Out, s.Out, func() []api.Batch { l, _ := s.Again(); return l }, s.Out}
	for i, call := range calls {
		l := call()
		if !alike(l, want) {
			t.Fatalf("call %d: %v, want %v", i, l, want)
		}
		one, two := s.Out(), s.Out()
		spoil(l)
		spoil(one)
		if !alike(two, want) {
			t.Fatalf("call %d: %v is of another answer", i, two)
		}
		holds(t, s, want, nil)
	}
}

func TestWhatWaitsIsItsOwn(t *testing.T) { // R2
	s := made(t, 1, 1)
	push(t, s, row(nth, 0, 40)...)
	one, two := s.Wait(), s.Wait()
	for i := range one {
		one[i] = api.Object{Kind: 77}
	}
	_ = append(one, api.Object{Kind: 78})
	if !slices.Equal(two, row(nth, 0, 40)) {
		t.Errorf("%v is of the other answer", two)
	}
	holds(t, s, nil, row(nth, 0, 40))
	gone := len(objects(s.Send()))
	if !slices.Equal(two, row(nth, 0, 40)) {
		t.Errorf("%v turned by Send", two)
	}
	push(t, s, nth(41))
	holds(t, s, s.Out(), append(row(nth, gone, 40), nth(41)))
}

func TestAnswersStayAsTheyWere(t *testing.T) { // R2
	s := made(t, 2, 100)
	push(t, s, row(qry, 0, 200)...)
	sent := s.Send()
	again, _ := s.Again()
	all := s.Out()
	want := []api.Batch{{Number: 0, Objects: row(qry, 0, 32)}, {Number: 1, Objects: row(qry, 32, 64)}}
	s.Got(api.Ack{Next: 1})
	s.Send()
	s.Got(api.Ack{Next: 3})
	s.Send()
	for i, l := range [][]api.Batch{sent, again, all} {
		if !alike(l, want) {
			t.Errorf("answer %d became %v", i, l)
		}
	}
}

func TestSendersDoNotMeet(t *testing.T) { // R2
	a, b := made(t, 2, 2), made(t, 2, 2)
	out(t, a, 2)
	again(t, a, 0, 1)
	holds(t, b, nil, nil)
	push(t, b, qry(7))
	sends(t, b, 0)
	again(t, b, 0)
	got(t, b, api.Ack{Next: 1}, 1)
	isOut(t, a, 0, 1)
	tooOften(t, a)
}

func TestWorkersDoNotMeet(t *testing.T) { // R2
	var all sync.WaitGroup
	wrong := make([]int, 8)
	for k := range wrong {
		all.Go(func() {
			s, _ := sender.New(k+1, 2)
			for i := range 300 {
				e := s.Push(nth(i + k))
				sent := s.Send()
				more, ok := s.Again()
				none, no := s.Again()
				want := []api.Batch{{Number: i, Objects: []api.Object{nth(i + k)}}}
				if e != api.OK || !alike(sent, want) || !alike(more, want) || !ok || len(none) != 0 || no || s.Got(api.Ack{Next: i + 1}) != 1 {
					wrong[k]++
				}
			}
		})
	}
	all.Wait()
	for k, n := range wrong {
		if n != 0 {
			t.Errorf("worker %d: %d answers of others", k, n)
		}
	}
}
