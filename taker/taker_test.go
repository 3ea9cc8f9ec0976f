package taker_test

import (
	"math"
	"slices"
	"sync"
	"testing"

	"thalweg/ack"
	"thalweg/api"
	"thalweg/sender"
	"thalweg/serial"
	"thalweg/taker"
)

const round = 65536 // numbers there are

func made(t *testing.T) *taker.Taker {
	t.Helper()
	x := taker.New()
	if x == nil {
		t.Fatal("New: nil")
	}
	return x
}

func qry(dest int) api.Object { return api.Object{Kind: api.Qry, Dest: dest % api.MaxNodes} }

// opt is an object by which n is to be known.
func opt(n int) api.Object {
	return api.Object{Kind: api.Opt, Dest: n / round % api.MaxNodes, Height: api.Height{Delta: n, Id: 1}, Number: n % round}
}

// nth is the batch n, of 1 to 3 objects that no other one has.
func nth(n int) api.Batch {
	x := api.Batch{Number: n % round}
	for k := range 1 + n%3 {
		x.Objects = append(x.Objects, opt(3*n+k))
	}
	return x
}

// objectsOf are the objects of the batches from to less than to.
func objectsOf(from, to int) []api.Object {
	var l []api.Object
	for n := from; n < to; n++ {
		l = append(l, nth(n).Objects...)
	}
	return l
}

// takes lets x take the batch n, and asks for the objects of as many batches from n on.
func takes(t *testing.T, x *taker.Taker, n, count int) {
	t.Helper()
	l, e := x.Take(nth(n))
	if want := objectsOf(n, n+count); !slices.Equal(l, want) || e != api.OK {
		t.Fatalf("Take of %d: %v, %d, want %v, OK", n, l, e, want)
	}
}

// holds asks for next, and for what is held.
func holds(t *testing.T, x *taker.Taker, next int, held ...int) {
	t.Helper()
	mask := 0
	for _, n := range held {
		mask |= 1 << ((n-next+round)%round - 1)
	}
	if a := x.Ack(); a != (api.Ack{Next: next, Mask: mask}) {
		t.Fatalf("Ack: %v, want Next %d, Mask %d", a, next, mask)
	}
	if l := x.Held(); !slices.Equal(l, held) {
		t.Fatalf("Held: %v, want %v", l, held)
	}
}

// refuses asks for an error, by which nothing turns.
func refuses(t *testing.T, x *taker.Taker, b api.Batch, want api.Errno) {
	t.Helper()
	a, held := x.Ack(), x.Held()
	if l, e := x.Take(b); len(l) != 0 || e != want {
		t.Fatalf("Take(%v) at %v: %v, %d, want none, %d", b, a, l, e, want)
	}
	if x.Ack() != a || !slices.Equal(x.Held(), held) {
		t.Fatalf("Take(%v) turns %v, %v into %v, %v", b, a, held, x.Ack(), x.Held())
	}
}

// at is a taker that was told all batches ahead of next.
func at(t *testing.T, next int) *taker.Taker {
	t.Helper()
	x := made(t)
	for n := range next {
		if l, e := x.Take(api.Batch{Number: n, Objects: []api.Object{qry(n)}}); len(l) != 1 || l[0] != qry(n) || e != api.OK {
			t.Fatalf("Take of %d: %v, %d", n, l, e)
		}
	}
	return x
}

// wrongBatches are batches that are not right, each of one thing alone, that but for it are of Number n.
func wrongBatches(n int) []api.Batch {
	many := func(count int, o api.Object) []api.Object {
		var l []api.Object
		for range count {
			l = append(l, o)
		}
		return l
	}
	big := api.Object{Kind: api.Opt, Dest: 63, Height: api.Height{Tau: api.MaxTau, Oid: 63, R: 1, Delta: -api.MaxDelta, Id: 63}}
	l := []api.Batch{
		{Number: n}, {Number: n, Objects: []api.Object{}}, {Number: n, Objects: many(33, qry(1))}, {Number: n, Objects: many(22, big)}, {Number: n, Objects: many(1000, qry(1))},
		{Number: n, Objects: []api.Object{{}}}, {Number: n, Objects: []api.Object{qry(1), {Kind: 5}}}, {Number: n, Objects: []api.Object{{Kind: api.Qry, Dest: 64}, qry(1)}},
		{Number: n, Objects: []api.Object{qry(1), {Kind: api.Qry, Dest: -1}, qry(1)}}, {Number: n, Objects: []api.Object{{Kind: api.Qry, Number: 1}}},
	}
	for _, other := range []int{n - round, n + round, n - 2*round, n + 1<<32, n - 1<<32, -1, round, math.MinInt, math.MaxInt} {
		l = append(l, api.Batch{Number: other, Objects: []api.Object{qry(1)}})
	}
	return l
}

func TestNew(t *testing.T) { // P15.1, P15.2
	x := made(t)
	holds(t, x, 0)
	takes(t, x, 0, 1)
	y := made(t)
	holds(t, y, 0)
	takes(t, y, 1, 0)
	holds(t, x, 1)
	holds(t, y, 0, 1)
}

func TestNilTaker(t *testing.T) { // P15.1, P15.2, R1
	var x *taker.Taker
	for _, b := range append(wrongBatches(0), nth(0), nth(1), nth(17), nth(65535)) {
		if l, e := x.Take(b); len(l) != 0 || e != api.ErrNil {
			t.Errorf("Take(%v): %v, %d, want none, ErrNil", b, l, e)
		}
	}
	if a := x.Ack(); a != (api.Ack{}) {
		t.Errorf("Ack: %v", a)
	}
	if l := x.Held(); len(l) != 0 {
		t.Errorf("Held: %v", l)
	}
}

func TestTheExample(t *testing.T) { // P15.1, P15.2
	x := made(t)
	five := api.Batch{Number: 0, Objects: []api.Object{qry(5)}}
	six := api.Batch{Number: 1, Objects: []api.Object{qry(6)}}
	if l, e := x.Take(six); len(l) != 0 || e != api.OK {
		t.Errorf("Take 1: %v, %d", l, e)
	}
	if a := x.Ack(); a != (api.Ack{Next: 0, Mask: 1}) {
		t.Errorf("Ack: %v", a)
	}
	if l, e := x.Take(five); !slices.Equal(l, []api.Object{qry(5), qry(6)}) || e != api.OK {
		t.Errorf("Take 0: %v, %d", l, e)
	}
	if l, e := x.Take(five); len(l) != 0 || e != api.ErrOld {
		t.Errorf("Take 0: %v, %d", l, e)
	}
	if a := x.Ack(); a != (api.Ack{Next: 2}) {
		t.Errorf("Ack: %v", a)
	}
}

func TestBatchesInTheirOrder(t *testing.T) { // P15.1
	x := made(t)
	for n := range 200 {
		holds(t, x, n)
		takes(t, x, n, 1)
	}
	holds(t, x, 200)
}

func TestAGreatBatch(t *testing.T) { // P15.1
	x := made(t)
	var l, m []api.Object
	for n := range 32 {
		l = append(l, qry(n))
		m = append(m, qry(63-n))
	}
	if told, e := x.Take(api.Batch{Number: 1, Objects: m}); len(told) != 0 || e != api.OK {
		t.Fatalf("Take 1: %v, %d", told, e)
	}
	if told, e := x.Take(api.Batch{Number: 0, Objects: l}); !slices.Equal(told, append(l, m...)) || e != api.OK {
		t.Fatalf("Take 0: %v, %d", told, e)
	}
}

func TestBatchesAheadOfTheirTurnAreHeld(t *testing.T) { // P15.1, P15.2
	x := made(t)
	takes(t, x, 3, 0)
	holds(t, x, 0, 3)
	takes(t, x, 1, 0)
	holds(t, x, 0, 1, 3)
	takes(t, x, 16, 0)
	holds(t, x, 0, 1, 3, 16)
	takes(t, x, 0, 2)
	holds(t, x, 2, 3, 16)
	takes(t, x, 4, 0)
	holds(t, x, 2, 3, 4, 16)
	takes(t, x, 18, 0)
	holds(t, x, 2, 3, 4, 16, 18)
	takes(t, x, 2, 3)
	holds(t, x, 5, 16, 18)
	for n := 15; n > 5; n-- {
		takes(t, x, n, 0)
	}
	holds(t, x, 5, 6, 7, 8, 9, 10, 11, 12, 13, 14, 15, 16, 18)
	takes(t, x, 5, 12)
	holds(t, x, 17, 18)
	takes(t, x, 17, 2)
	holds(t, x, 19)
}

func TestAllThatMayBeHeld(t *testing.T) { // P15.1, P15.2
	x := made(t)
	var held []int
	for n := 1; n <= 16; n++ {
		takes(t, x, n, 0)
		held = append(held, n)
		holds(t, x, 0, held...)
	}
	if a := x.Ack(); a != (api.Ack{Mask: 65535}) {
		t.Errorf("Ack: %v", a)
	}
	refuses(t, x, nth(17), api.ErrArg)
	for n := 1; n <= 16; n++ {
		refuses(t, x, nth(n), api.ErrThere)
	}
	takes(t, x, 0, 17)
	holds(t, x, 17)
	for n := 0; n <= 16; n++ {
		refuses(t, x, nth(n), api.ErrOld)
	}
}

func TestHowFarANumberIs(t *testing.T) { // P15.1, R1
	for _, next := range []int{0, 1, 5, 17, 300} {
		x := at(t, next)
		for _, k := range []int{32768, 32769, 40000, 65000, 65535} {
			refuses(t, x, nth((next+k)%round), api.ErrOld)
		}
		for _, k := range []int{17, 18, 100, 255, 256, 257, 30000, 32766, 32767} {
			refuses(t, x, nth(next+k), api.ErrArg)
		}
		for k := 1; k <= 16; k++ {
			y := at(t, next)
			takes(t, y, next+k, 0)
			holds(t, y, next, next+k)
			refuses(t, y, nth(next+k), api.ErrThere)
		}
		for n := range next {
			refuses(t, x, nth(n), api.ErrOld)
		}
		holds(t, x, next)
	}
}

func TestEachNumber(t *testing.T) { // P15.1: all numbers there are, held against where next is
	for _, next := range []int{0, 40} {
		x := at(t, next)
		for n := range round {
			far := (n - next + round) % round
			want, count := api.OK, 0
			switch {
			case far >= 32768:
				want = api.ErrOld
			case far > 16:
				want = api.ErrArg
			case far == 0:
				count = 1
			}
			if l, e := x.Take(api.Batch{Number: n, Objects: []api.Object{qry(n)}}); len(l) != count || e != want {
				t.Fatalf("Take of %d at %d: %v, %d, want %d objects, %d", n, next, l, e, count, want)
			}
			if want == api.OK {
				x = at(t, next)
			}
		}
	}
}

func TestOneThatIsHeldIsNotTakenTwice(t *testing.T) { // P15.1
	x := made(t)
	takes(t, x, 2, 0)
	other := api.Batch{Number: 2, Objects: []api.Object{qry(9)}}
	refuses(t, x, other, api.ErrThere)
	takes(t, x, 0, 1)
	refuses(t, x, other, api.ErrThere)
	takes(t, x, 1, 2)
	refuses(t, x, other, api.ErrOld)
	refuses(t, x, nth(1), api.ErrOld)
	holds(t, x, 3)
}

func TestWrongBatches(t *testing.T) { // P15.1, R1: ahead of what their numbers are
	for _, next := range []int{0, 3} {
		x := at(t, next)
		takes(t, x, next+2, 0)
		for _, n := range []int{next, next + 1, next + 2, next + 16, next + 17, next + 32767, next + 32768, (next + 65535) % round} {
			for _, b := range wrongBatches(n) {
				refuses(t, x, b, api.ErrArg)
			}
		}
		takes(t, x, next, 1)
		takes(t, x, next+1, 2)
	}
}

func TestNumbersGoRound(t *testing.T) { // P15.1, P15.2, R5
	x := at(t, 65530)
	for k := 16; k > 0; k-- {
		takes(t, x, 65530+k, 0)
	}
	holds(t, x, 65530, 65531, 65532, 65533, 65534, 65535, 0, 1, 2, 3, 4, 5, 6, 7, 8, 9, 10)
	refuses(t, x, nth(11), api.ErrArg)
	refuses(t, x, nth(65529), api.ErrOld)
	refuses(t, x, nth(32762), api.ErrOld)
	refuses(t, x, nth(32761), api.ErrArg)
	for _, n := range []int{65531, 65535, 0, 1, 10} {
		refuses(t, x, nth(n), api.ErrThere)
	}
	takes(t, x, 65530, 17)
	holds(t, x, 11)
	refuses(t, x, nth(65535), api.ErrOld)
	refuses(t, x, nth(0), api.ErrOld)
	takes(t, x, round+11, 1)
	holds(t, x, 12)
}

func TestNextGoesRoundByOne(t *testing.T) { // P15.1, R5
	x := at(t, 65535)
	holds(t, x, 65535)
	takes(t, x, round, 0)
	holds(t, x, 65535, 0)
	takes(t, x, 65535, 2)
	holds(t, x, 1)
	refuses(t, x, nth(0), api.ErrOld)
	takes(t, x, round+1, 1)
	holds(t, x, 2)
}

func TestTheAckHasWhatCame(t *testing.T) { // P15.2: by layer 7's Has
	for mask := 0; mask < 1<<16; mask += 37 {
		x := made(t)
		takes(t, x, 0, 1)
		for k := range 16 {
			if mask>>k&1 == 1 {
				takes(t, x, 2+k, 0)
			}
		}
		a := x.Ack()
		if a.Id != 0 || a.Epoch != 0 || a.Next != 1 || a.Mask != mask {
			t.Fatalf("Ack: %v, want Mask %d", a, mask)
		}
		for k := range 16 {
			if ack.Has(a, 2+k) != slices.Contains(x.Held(), 2+k) {
				t.Fatalf("%v, %d, %v", a, 2+k, x.Held())
			}
		}
		if !ack.Has(a, 0) || ack.Has(a, 1) || ack.Has(a, 18) {
			t.Fatalf("%v has others", a)
		}
	}
}

func TestAskingTurnsNothing(t *testing.T) { // P15.2
	x := made(t)
	for range 3 {
		holds(t, x, 0)
	}
	takes(t, x, 5, 0)
	takes(t, x, 2, 0)
	for range 3 {
		holds(t, x, 0, 2, 5)
	}
	takes(t, x, 0, 1)
	takes(t, x, 1, 2)
	for range 3 {
		holds(t, x, 3, 5)
	}
}

func TestListsHandedInAreNotKept(t *testing.T) { // R2
	x := made(t)
	l := make([]api.Object, 1, 8)
	for n := 2; n >= 0; n-- {
		l[0] = qry(50 + n)
		told, e := x.Take(api.Batch{Number: n, Objects: l})
		if e != api.OK || n > 0 && len(told) != 0 {
			t.Fatalf("Take of %d: %v, %d", n, told, e)
		}
		if l[0] != qry(50+n) || slices.ContainsFunc(l[1:8], func(o api.Object) bool { return o != api.Object{} }) {
			t.Fatalf("Take of %d writes: %v", n, l[:8])
		}
		l[0] = qry(1)
		if n > 0 {
			continue
		}
		if !slices.Equal(told, []api.Object{qry(50), qry(51), qry(52)}) {
			t.Fatalf("told: %v", told)
		}
		for i := range told {
			told[i] = qry(2)
		}
		if l[0] != qry(1) {
			t.Fatal("the answer is the list that was handed in")
		}
	}
}

func TestAnswersMeetNoOther(t *testing.T) { // R2
	x := made(t)
	takes(t, x, 2, 0)
	takes(t, x, 4, 0)
	held := x.Held()
	held[0], held[1] = 9, 9
	holds(t, x, 0, 2, 4)
	first, _ := x.Take(nth(0))
	before := slices.Clone(first)
	_ = append(first, qry(7))
	second, _ := x.Take(nth(1))
	if !slices.Equal(first, before) || !slices.Equal(second, objectsOf(1, 3)) {
		t.Fatalf("%v, %v", first, second)
	}
	for i := range second {
		second[i] = qry(8)
	}
	takes(t, x, 3, 2)
	if !slices.Equal(first, before) {
		t.Fatalf("%v turned into %v", before, first)
	}
}

type roller uint32

func (r *roller) below(n int) int {
	*r = *r*1664525 + 1013904223
	return int(*r>>8) % n
}

// shuffled are the batches from to less than to as they come: each at least once, some twice, none more than 8 batches from its place.
func shuffled(r *roller, from, to int) []int {
	var places [][2]int
	for n := from; n < to; n++ {
		for range 1 + r.below(2) {
			places = append(places, [2]int{n + r.below(8), n})
		}
	}
	slices.SortStableFunc(places, func(a, b [2]int) int { return a[0] - b[0] })
	var l []int
	for _, p := range places {
		l = append(l, p[1])
	}
	return l
}

func TestWhateverTheOrder(t *testing.T) { // P15.3
	all := objectsOf(0, 60)
	for seed := range 100 {
		r := roller(seed)
		x := made(t)
		var told []api.Object
		for _, n := range shuffled(&r, 0, 60) {
			l, e := x.Take(nth(n))
			if e != api.OK && e != api.ErrOld && e != api.ErrThere {
				t.Fatalf("Take of %d: %d", n, e)
			}
			told = append(told, l...)
			if len(told) > len(all) || !slices.Equal(told, all[:len(told)]) {
				t.Fatalf("seed %d: %v is told", seed, told)
			}
		}
		if !slices.Equal(told, all) {
			t.Fatalf("seed %d: %d are told of %d", seed, len(told), len(all))
		}
		holds(t, x, 60)
	}
}

// plain is what a taker is by the document's words, all that came being kept in a row.
type plain struct {
	next int
	held []api.Batch
}

func (p *plain) take(x api.Batch) ([]api.Object, api.Errno) {
	far := serial.Far(p.next, x.Number)
	there := slices.ContainsFunc(p.held, func(h api.Batch) bool { return h.Number == x.Number })
	switch {
	case len(x.Objects) == 0:
		return nil, api.ErrArg
	case far >= 32768:
		return nil, api.ErrOld
	case far >= 17:
		return nil, api.ErrArg
	case there:
		return nil, api.ErrThere
	case far > 0:
		p.held = append(p.held, x)
		return nil, api.OK
	}
	told := slices.Clone(x.Objects)
	p.next = (p.next + 1) % round
	for i := 0; i < len(p.held); i++ {
		if p.held[i].Number == p.next {
			told = append(told, p.held[i].Objects...)
			p.held = slices.Delete(p.held, i, i+1)
			p.next = (p.next + 1) % round
			i = -1
		}
	}
	return told, api.OK
}

func (p *plain) numbers() []int {
	var l []int
	for k := 1; k <= 16; k++ {
		for _, h := range p.held {
			if h.Number == (p.next+k)%round {
				l = append(l, h.Number)
			}
		}
	}
	return l
}

// plays holds x against a plain one, call by call; what is wrong is answered.
func plays(x *taker.Taker, p *plain, seed, calls int) string {
	r := roller(seed)
	for call := range calls {
		n := (p.next + r.below(24) - 4 + round) % round
		if r.below(20) == 0 {
			n = r.below(round)
		}
		b := api.Batch{Number: n}
		for range r.below(4) {
			b.Objects = append(b.Objects, opt(r.below(1000)))
		}
		l, e := x.Take(b)
		want, f := p.take(b)
		if !slices.Equal(l, want) || e != f {
			return "Take"
		}
		if !slices.Equal(x.Held(), p.numbers()) {
			return "Held"
		}
		if a, _ := ack.Of(p.next, p.numbers()); call%3 == 0 && x.Ack() != a {
			return "Ack"
		}
	}
	return ""
}

func TestAgainstAPlainOne(t *testing.T) { // P15.1, P15.2
	for seed := range 60 {
		if wrong := plays(made(t), &plain{}, seed, 400); wrong != "" {
			t.Fatalf("seed %d: %s", seed, wrong)
		}
	}
	p := &plain{next: 65500}
	if wrong := plays(at(t, 65500), p, 7, 600); wrong != "" || p.next > 65500 {
		t.Fatalf("round: %s, next %d", wrong, p.next)
	}
}

func TestTakersDoNotMeet(t *testing.T) { // R2
	var wait sync.WaitGroup
	wrong := make([]string, 16)
	for i := range wrong {
		wait.Go(func() { wrong[i] = plays(taker.New(), &plain{}, i%4, 300) })
	}
	wait.Wait()
	for i, w := range wrong {
		if w != "" {
			t.Errorf("worker %d: %s", i, w)
		}
	}
}

// crossed lets what of s is out cross to x: some batches are lost, some come twice, in any order.
func crossed(r *roller, l []api.Batch, x *taker.Taker) []api.Object {
	var told []api.Object
	for range 2 * len(l) {
		if r.below(3) == 0 {
			continue
		}
		came, _ := x.Take(l[r.below(len(l))])
		told = append(told, came...)
	}
	return told
}

func TestWhatASenderSentIsTold(t *testing.T) { // P15.3
	for seed := range 40 {
		r := roller(seed)
		window := 1 + r.below(16)
		s, _ := sender.New(window, api.MaxTries)
		x := made(t)
		var pushed, told []api.Object
		for step := 0; step < 2000 && (step < 40 || len(told) < len(pushed)); step++ {
			for range r.below(80) {
				if o := opt(len(pushed)); step < 40 && s.Push(o) == api.OK {
					pushed = append(pushed, o)
				}
			}
			told = append(told, crossed(&r, s.Send(), x)...)
			l, ok := s.Again()
			if !ok {
				t.Fatalf("seed %d: sent too often", seed)
			}
			told = append(told, crossed(&r, l, x)...)
			if len(told) > len(pushed) || !slices.Equal(told, pushed[:len(told)]) {
				t.Fatalf("seed %d: what is told is not what was pushed", seed)
			}
			if r.below(2) == 0 {
				s.Got(x.Ack())
			}
		}
		if !slices.Equal(told, pushed) || len(pushed) == 0 {
			t.Fatalf("seed %d: %d are told of %d", seed, len(told), len(pushed))
		}
	}
}
