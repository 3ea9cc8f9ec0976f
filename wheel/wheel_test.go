package wheel_test

import (
	"cmp"
	"math"
	"slices"
	"sync"
	"testing"

	"thalweg/api"
	"thalweg/wheel"
)

// made is a wheel with l.
func made(t *testing.T, l ...api.Timer) *wheel.Wheel {
	t.Helper()
	w := wheel.New()
	if w == nil {
		t.Fatal("New: nil")
	}
	for _, x := range l {
		if e := w.Set(x.Key, x.At); e != api.OK {
			t.Fatalf("Set(%d, %d): %d", x.Key, x.At, e)
		}
	}
	return w
}

// full are as many timers as may be: of keys 3, 6, 9 and so on, three of each time.
func full() []api.Timer {
	var l []api.Timer
	for i := range api.MaxTimers {
		l = append(l, api.Timer{At: 10 + i/3, Key: 3 + 3*i})
	}
	return l
}

// holds asks w all there is to be asked without a change, want being its timers in their order.
func holds(t *testing.T, w *wheel.Wheel, want []api.Timer) {
	t.Helper()
	if l := w.List(); !slices.Equal(l, want) {
		t.Fatalf("List: %v, want %v", l, want)
	}
	at, ok := w.Next()
	if len(want) == 0 && (at != 0 || ok) {
		t.Fatalf("Next of none: %d, %v", at, ok)
	}
	if len(want) > 0 && (at != want[0].At || !ok) {
		t.Fatalf("Next: %d, %v, want %d", at, ok, want[0].At)
	}
}

// due asks w for what is due, want being its keys in their order.
func due(t *testing.T, w *wheel.Wheel, now int, want ...int) {
	t.Helper()
	if l := w.Due(now); !slices.Equal(l, want) {
		t.Fatalf("Due(%d): %v, want %v", now, l, want)
	}
}

// wrong are timers that may not be set: each of one thing alone, or of both.
func wrong() []api.Timer {
	l := []api.Timer{{At: -1, Key: -1}, {At: api.MaxTime + 1, Key: -1}}
	for _, at := range []int{-1, -2, -api.MaxTime, math.MinInt, api.MaxTime + 1, api.MaxTime + 2, math.MaxInt} {
		l = append(l, api.Timer{At: at}, api.Timer{At: at, Key: 3}, api.Timer{At: at, Key: math.MaxInt})
	}
	for _, key := range []int{-1, -2, -3, -1024, math.MinInt} {
		l = append(l, api.Timer{Key: key}, api.Timer{At: 5, Key: key}, api.Timer{At: api.MaxTime, Key: key})
	}
	return l
}

func TestNewIsWithoutTimers(t *testing.T) { // P11.1, P11.2
	holds(t, made(t), nil)
	for _, now := range []int{math.MinInt, -1, 0, 1, api.MaxTime, math.MaxInt} {
		due(t, made(t), now)
	}
	for _, key := range []int{math.MinInt, -1, 0, 1, math.MaxInt} {
		w := made(t)
		if e := w.Stop(key); e != api.ErrNone {
			t.Errorf("Stop(%d) of none: %d, want ErrNone", key, e)
		}
		holds(t, w, nil)
	}
}

func TestNil(t *testing.T) { // P11.1, R1
	var w *wheel.Wheel
	for _, x := range append(wrong(), api.Timer{}, api.Timer{At: 5, Key: 7}) {
		if e := w.Set(x.Key, x.At); e != api.ErrNil {
			t.Errorf("Set(%d, %d): %d, want ErrNil", x.Key, x.At, e)
		}
		if e := w.Stop(x.Key); e != api.ErrNil {
			t.Errorf("Stop(%d): %d, want ErrNil", x.Key, e)
		}
		if l := w.Due(x.At); len(l) != 0 {
			t.Errorf("Due(%d): %v", x.At, l)
		}
	}
	if at, ok := w.Next(); at != 0 || ok {
		t.Errorf("Next: %d, %v, want 0, false", at, ok)
	}
	if l := w.List(); len(l) != 0 {
		t.Errorf("List: %v", l)
	}
}

func TestExamplesOfTheChapter(t *testing.T) { // P11.1, P11.2
	w := made(t, api.Timer{At: 5, Key: 7}, api.Timer{At: 5, Key: 3}, api.Timer{At: 2, Key: 9}, api.Timer{At: 6, Key: 9})
	due(t, w, 5, 3, 7)
	if at, ok := w.Next(); at != 6 || !ok {
		t.Errorf("Next: %d, %v, want 6, true", at, ok)
	}
}

func TestSetTakesTheLeastAndTheGreatest(t *testing.T) { // P11.1
	for _, at := range []int{0, 1, api.MaxTime - 1, api.MaxTime} {
		for _, key := range []int{0, 1, 1023, 1024, 1 << 32, math.MaxInt - 1, math.MaxInt} {
			w := made(t, api.Timer{At: at, Key: key})
			holds(t, w, []api.Timer{{At: at, Key: key}})
			due(t, w, at-1)
			due(t, w, at, key)
			holds(t, w, nil)
		}
	}
}

func TestSetTurnsAwayWhatMayNotBe(t *testing.T) { // P11.1, R1
	for _, l := range [][]api.Timer{nil, {{At: 4, Key: 0}, {At: 5, Key: 3}}, full()} {
		w := made(t, l...)
		for _, x := range wrong() {
			if e := w.Set(x.Key, x.At); e != api.ErrArg {
				t.Errorf("Set(%d, %d) of %d: %d, want ErrArg", x.Key, x.At, len(l), e)
			}
			holds(t, w, l)
		}
	}
}

func TestSetAgain(t *testing.T) { // P11.1
	for _, again := range []int{0, 4, 5, 6, 7, 8, 9, api.MaxTime} {
		w := made(t, api.Timer{At: 6, Key: 1}, api.Timer{At: 7, Key: 2}, api.Timer{At: 8, Key: 3}, api.Timer{At: again, Key: 2})
		want := []api.Timer{{At: 6, Key: 1}, {At: again, Key: 2}, {At: 8, Key: 3}}
		slices.SortFunc(want, order)
		holds(t, w, want)
		if e := w.Stop(2); e != api.OK {
			t.Errorf("Stop: %d", e)
		}
		if e := w.Stop(2); e != api.ErrNone {
			t.Errorf("Stop again: %d, want ErrNone", e)
		}
		holds(t, w, []api.Timer{{At: 6, Key: 1}, {At: 8, Key: 3}})
	}
}

func TestSetAgainIsNotDueAsBefore(t *testing.T) { // P11.1, P11.3
	w := made(t, api.Timer{At: 2, Key: 4}, api.Timer{At: 9, Key: 4})
	due(t, w, 2)
	due(t, w, 8)
	due(t, w, 9, 4)
	due(t, w, 9)
	w = made(t, api.Timer{At: 9, Key: 4}, api.Timer{At: 2, Key: 4})
	due(t, w, 1)
	due(t, w, 2, 4)
	due(t, w, 9)
}

func TestStop(t *testing.T) { // P11.1
	l := []api.Timer{{At: 1, Key: 5}, {At: 2, Key: 0}, {At: 2, Key: 8}, {At: 3, Key: 1}}
	for i, x := range l {
		w := made(t, l...)
		for _, key := range []int{math.MinInt, -1, 2, 3, 7, 9, math.MaxInt} {
			if e := w.Stop(key); e != api.ErrNone {
				t.Errorf("Stop(%d): %d, want ErrNone", key, e)
			}
		}
		holds(t, w, l)
		if e := w.Stop(x.Key); e != api.OK {
			t.Errorf("Stop(%d): %d", x.Key, e)
		}
		want := slices.Delete(slices.Clone(l), i, i+1)
		holds(t, w, want)
		if e := w.Stop(x.Key); e != api.ErrNone {
			t.Errorf("Stop(%d) again: %d, want ErrNone", x.Key, e)
		}
		if e := w.Set(x.Key, x.At); e != api.OK {
			t.Errorf("Set behind Stop: %d", e)
		}
		holds(t, w, l)
	}
}

func TestStopOfOneThatWasDue(t *testing.T) { // P11.1, P11.2
	w := made(t, api.Timer{At: 1, Key: 5}, api.Timer{At: 2, Key: 6})
	due(t, w, 1, 5)
	if e := w.Stop(5); e != api.ErrNone {
		t.Errorf("Stop: %d, want ErrNone", e)
	}
	holds(t, w, []api.Timer{{At: 2, Key: 6}})
}

func TestSetTillThereIsNoRoom(t *testing.T) { // P11.1
	l := full()
	w := made(t, l[:len(l)-1]...)
	holds(t, w, l[:len(l)-1])
	if e := w.Set(l[len(l)-1].Key, l[len(l)-1].At); e != api.OK {
		t.Fatalf("the last one: %d", e)
	}
	for _, key := range []int{0, 1, 2, 4, 3 * 1025, math.MaxInt} {
		if e := w.Set(key, 1); e != api.ErrFull {
			t.Errorf("Set(%d) of one more: %d, want ErrFull", key, e)
		}
		holds(t, w, l)
	}
	for i := range l { // those that are set may be set to another time
		l[i].At += api.MaxTime / 2
		if e := w.Set(l[i].Key, l[i].At); e != api.OK {
			t.Errorf("Set(%d) again: %d", l[i].Key, e)
		}
	}
	holds(t, w, l)
	if e := w.Set(1, 1); e != api.ErrFull {
		t.Errorf("one more: %d, want ErrFull", e)
	}
}

func TestThereIsRoomAgain(t *testing.T) { // P11.1
	free := map[string]func(w *wheel.Wheel) int{
		"Stop": func(w *wheel.Wheel) int { w.Stop(3); return 1 },
		"Due":  func(w *wheel.Wheel) int { return len(w.Due(10)) },
		"all":  func(w *wheel.Wheel) int { return len(w.Due(api.MaxTime)) },
	}
	for name, room := range free {
		w := made(t, full()...)
		n := room(w)
		for i := range n {
			if e := w.Set(1+3*i, 9); e != api.OK {
				t.Fatalf("%s: %d of %d: %d", name, i, n, e)
			}
		}
		if e := w.Set(2, 9); e != api.ErrFull {
			t.Errorf("%s: one more: %d, want ErrFull", name, e)
		}
		if l := w.List(); len(l) != api.MaxTimers {
			t.Errorf("%s: %d are set", name, len(l))
		}
	}
}

func TestOrder(t *testing.T) { // P11.2
	l := []api.Timer{{At: 0, Key: 9}, {At: 1, Key: 8}, {At: 2, Key: 0}, {At: 2, Key: 1}, {At: 2, Key: 10}, {At: 10, Key: 2}, {At: api.MaxTime, Key: 3}, {At: api.MaxTime, Key: math.MaxInt}}
	for turn := range len(l) {
		for _, step := range []int{1, 3, 5, 7} { // each of them goes by all of the eight
			w := made(t)
			for i := range l {
				x := l[(turn+i*step)%len(l)]
				w.Set(x.Key, x.At)
			}
			holds(t, w, l)
			due(t, w, api.MaxTime, 9, 8, 0, 1, 10, 2, 3, math.MaxInt)
			holds(t, w, nil)
		}
	}
}

func TestDueOfAnyTime(t *testing.T) { // P11.2, P11.3
	l := []api.Timer{{At: 0, Key: 4}, {At: 5, Key: 2}, {At: 5, Key: 3}, {At: 6, Key: 1}, {At: api.MaxTime, Key: 0}}
	for _, x := range []struct{ now, n int }{{math.MinInt, 0}, {-1, 0}, {0, 1}, {1, 1}, {4, 1}, {5, 3}, {6, 4}, {7, 4}, {api.MaxTime - 1, 4}, {api.MaxTime, 5}, {api.MaxTime + 1, 5}, {math.MaxInt, 5}} {
		w := made(t, l...)
		due(t, w, x.now, []int{4, 2, 3, 1, 0}[:x.n]...)
		holds(t, w, l[x.n:])
		due(t, w, x.now)
		holds(t, w, l[x.n:])
	}
}

func TestDueOfAnEarlierTimeThanBefore(t *testing.T) { // P11.2, P11.3
	w := made(t, api.Timer{At: 5, Key: 1}, api.Timer{At: 50, Key: 2})
	due(t, w, 20, 1)
	due(t, w, 3)
	if e := w.Set(7, 4); e != api.OK { // a time that is over may be set
		t.Errorf("Set: %d", e)
	}
	holds(t, w, []api.Timer{{At: 4, Key: 7}, {At: 50, Key: 2}})
	due(t, w, 3)
	due(t, w, 4, 7)
	holds(t, w, []api.Timer{{At: 50, Key: 2}})
}

func TestNextAndListTurnNothing(t *testing.T) { // P11.2
	l := []api.Timer{{At: 0, Key: 2}, {At: 7, Key: 0}, {At: 7, Key: 1}}
	w := made(t, l...)
	for range 3 {
		holds(t, w, l)
	}
	due(t, w, 7, 2, 0, 1)
}

func TestNextOfTimeZeroIsTrue(t *testing.T) { // P11.2
	w := made(t, api.Timer{At: 0, Key: 0})
	if at, ok := w.Next(); at != 0 || !ok {
		t.Errorf("Next: %d, %v, want 0, true", at, ok)
	}
}

func TestTwoTimesTellWhatTheLaterOneTells(t *testing.T) { // P11.3
	l := []api.Timer{{At: 1, Key: 9}, {At: 1, Key: 10}, {At: 3, Key: 4}, {At: 4, Key: 3}, {At: 4, Key: 30}, {At: 8, Key: 0}}
	for late := -1; late <= 10; late++ {
		want := made(t, l...).Due(late)
		for early := -1; early <= late; early++ {
			w := made(t, l...)
			got := append(w.Due(early), w.Due(late)...)
			if !slices.Equal(got, want) {
				t.Errorf("Due(%d), Due(%d): %v, want %v", early, late, got, want)
			}
			holds(t, w, l[len(want):])
		}
	}
}

// order is that of List.
func order(a, b api.Timer) int {
	if a.At != b.At {
		return cmp.Compare(a.At, b.At)
	}
	return cmp.Compare(a.Key, b.Key)
}

// plain is a wheel as a list that stays in order, to hold a wheel against.
type plain []api.Timer

func (x *plain) set(key, at int) api.Errno {
	rest := slices.DeleteFunc(slices.Clone(*x), func(t api.Timer) bool { return t.Key == key })
	if len(rest) == api.MaxTimers {
		return api.ErrFull
	}
	i, _ := slices.BinarySearchFunc(rest, api.Timer{At: at, Key: key}, order)
	*x = slices.Insert(rest, i, api.Timer{At: at, Key: key})
	return api.OK
}

func (x *plain) stop(key int) api.Errno {
	before := len(*x)
	*x = slices.DeleteFunc(*x, func(t api.Timer) bool { return t.Key == key })
	if len(*x) == before {
		return api.ErrNone
	}
	return api.OK
}

func (x *plain) due(now int) []int {
	var keys []int
	for len(*x) > 0 && (*x)[0].At <= now {
		keys = append(keys, (*x)[0].Key)
		*x = (*x)[1:]
	}
	return keys
}

func TestAsAPlainListWould(t *testing.T) { // P11.1 to P11.3
	for _, keys := range []int{1, 2, 7, 50, 1023, 1024, 1025, 1500} {
		w, x := made(t), &plain{}
		seed := uint32(keys)
		roll := func(n int) int {
			seed = seed*1664525 + 1013904223
			return int(seed>>8) % n
		}
		for i := range 6000 {
			key, at := roll(keys), i+roll(2000)
			switch what := roll(40); {
			case what < 30:
				if got, want := w.Set(key, at), x.set(key, at); got != want {
					t.Fatalf("%d, %d: Set(%d, %d): %d, want %d", keys, i, key, at, got, want)
				}
			case what < 39 || i%100 < 95:
				if got, want := w.Stop(key), x.stop(key); got != want {
					t.Fatalf("%d, %d: Stop(%d): %d, want %d", keys, i, key, got, want)
				}
			default:
				now := i - 100 + roll(200)
				if got, want := w.Due(now), x.due(now); !slices.Equal(got, want) {
					t.Fatalf("%d, %d: Due(%d): %v, want %v", keys, i, now, got, want)
				}
			}
			if i%10 == 0 {
				holds(t, w, *x)
			}
		}
		due(t, w, math.MaxInt, x.due(math.MaxInt)...)
		holds(t, w, nil)
	}
}

func TestWhatIsDueIsDueOnce(t *testing.T) { // P11.3
	l := full()
	w := made(t, l...)
	at, told := map[int]int{}, map[int]int{}
	for _, x := range l {
		at[x.Key] = x.At
	}
	for now := range 400 {
		for _, key := range w.Due(now) {
			told[key]++
			if at[key] != now {
				t.Errorf("%d is due at %d, and is told at %d", key, at[key], now)
			}
		}
	}
	for _, x := range l {
		if told[x.Key] != 1 {
			t.Errorf("%d is told %d times", x.Key, told[x.Key])
		}
	}
	if len(told) != len(l) {
		t.Errorf("%d keys are told, of %d", len(told), len(l))
	}
}

func TestListsAreTheirOwn(t *testing.T) { // R2
	l := []api.Timer{{At: 1, Key: 5}, {At: 2, Key: 6}, {At: 3, Key: 7}}
	w := made(t, l...)
	one, two := w.List(), w.List()
	for i := range one {
		one[i] = api.Timer{At: 9, Key: 9}
	}
	one = append(one, api.Timer{At: 8, Key: 8})
	holds(t, w, l)
	keys := w.Due(2)
	for i := range keys {
		keys[i] = 7
	}
	keys = append(keys, 7)
	w.Set(4, 4)
	w.List()
	w.Due(3)
	if !slices.Equal(two, l) || one[3] != (api.Timer{At: 8, Key: 8}) || !slices.Equal(keys, []int{7, 7, 7}) {
		t.Errorf("lists that were handed out: %v, %v, %v", one, two, keys)
	}
	holds(t, w, []api.Timer{{At: 4, Key: 4}})
}

func TestWheelsDoNotMeet(t *testing.T) { // R2
	a, b := made(t, api.Timer{At: 1, Key: 1}), made(t, api.Timer{At: 2, Key: 1}, api.Timer{At: 3, Key: 2})
	a.Set(2, 9)
	b.Stop(1)
	holds(t, a, []api.Timer{{At: 1, Key: 1}, {At: 9, Key: 2}})
	holds(t, b, []api.Timer{{At: 3, Key: 2}})
	var all sync.WaitGroup
	wrong := make([]int, 8)
	for k := range wrong {
		w := made(t)
		all.Go(func() {
			for i := range 5000 {
				w.Set(k, i)
				w.Set(k+10, i)
				if l := w.Due(i); !slices.Equal(l, []int{k, k + 10}) {
					wrong[k]++
				}
			}
		})
	}
	all.Wait()
	for k, n := range wrong {
		if n != 0 {
			t.Errorf("worker %d: %d answers of others", k, n)
		}
	}
}
