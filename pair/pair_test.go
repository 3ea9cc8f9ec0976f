package pair_test

import (
	"math"
	"reflect"
	"slices"
	"sync"
	"testing"

	"thalweg/api"
	"thalweg/frame"
	"thalweg/pair"
)

const round = 65536 // numbers there are

var (
	alice = api.Echo{Id: 1, Epoch: 5}
	bob   = api.Echo{Id: 2, Epoch: 6}
)

func made(t *testing.T, me, peer api.Echo, window, tries int) *pair.Pair {
	t.Helper()
	p, e := pair.New(me, peer, window, tries)
	if p == nil || e != api.OK {
		t.Fatalf("New(%v, %v, %d, %d): %v, %d", me, peer, window, tries, p, e)
	}
	return p
}

// two are the two ends of a session.
func two(t *testing.T, window, tries int) (*pair.Pair, *pair.Pair) {
	t.Helper()
	return made(t, alice, bob, window, tries), made(t, bob, alice, window, tries)
}

func qry(dest int) api.Object { return api.Object{Kind: api.Qry, Dest: dest % api.MaxNodes} }

// opt is an object by which n is to be known. Of these 21 are a batch.
func opt(n int) api.Object {
	return api.Object{Kind: api.Opt, Dest: n / round % api.MaxNodes, Height: api.Height{Delta: n, Id: 1}, Number: n % round}
}

// opts are the objects from to less than to.
func opts(from, to int) []api.Object {
	var l []api.Object
	for n := from; n < to; n++ {
		l = append(l, opt(n))
	}
	return l
}

func push(t *testing.T, p *pair.Pair, l ...api.Object) {
	t.Helper()
	for _, o := range l {
		if e := p.Push(o); e != api.OK {
			t.Fatalf("Push(%v): %d", o, e)
		}
	}
}

// from is a frame that one end sends to the other one.
func from(me, peer api.Echo, parts ...api.Part) api.Frame {
	return api.Frame{From: me.Id, Epoch: me.Epoch, To: peer.Id, Peer: peer.Epoch, Parts: parts}
}

func batchOf(number int, l ...api.Object) api.Part {
	return api.Part{Kind: api.PartBatch, Batch: api.Batch{Number: number, Objects: l}}
}

func acksOf(l ...api.Ack) api.Part { return api.Part{Kind: api.PartAcks, Acks: l} }

// ackOf is the part that tells who it is for that all ahead of next came, and those of mask.
func ackOf(who api.Echo, next, mask int) api.Part {
	return acksOf(api.Ack{Id: who.Id, Epoch: who.Epoch, Next: next, Mask: mask})
}

func alike(l, m []api.Frame) bool {
	return slices.EqualFunc(l, m, func(f, g api.Frame) bool { return reflect.DeepEqual(f, g) })
}

// areRight asks for frames that layer 9 finds right.
func areRight(t *testing.T, l []api.Frame) {
	t.Helper()
	for _, f := range l {
		if frame.Check(f) != api.OK {
			t.Fatalf("%v is not right", f)
		}
	}
}

// sends asks for the frames that are new.
func sends(t *testing.T, p *pair.Pair, want ...api.Frame) {
	t.Helper()
	l := p.Frames()
	if !alike(l, want) {
		t.Fatalf("Frames: %v, want %v", l, want)
	}
	areRight(t, l)
}

// again asks for the frames that go out again.
func again(t *testing.T, p *pair.Pair, want ...api.Frame) {
	t.Helper()
	l, ok := p.Again()
	if !alike(l, want) || !ok {
		t.Fatalf("Again: %v, %v, want %v, true", l, ok, want)
	}
	areRight(t, l)
}

func tooOften(t *testing.T, p *pair.Pair) {
	t.Helper()
	if l, ok := p.Again(); len(l) != 0 || ok {
		t.Fatalf("Again: %v, %v, want none, false", l, ok)
	}
}

// hears lets p hear f, and asks for what is told.
func hears(t *testing.T, p *pair.Pair, f api.Frame, want ...api.Object) {
	t.Helper()
	if l, e := p.Hear(f); !slices.Equal(l, want) || e != api.OK {
		t.Fatalf("Hear(%v): %v, %d, want %v, OK", f, l, e, want)
	}
}

func refuses(t *testing.T, p *pair.Pair, f api.Frame, want api.Errno) {
	t.Helper()
	if l, e := p.Hear(f); len(l) != 0 || e != want {
		t.Fatalf("Hear(%v): %v, %d, want none, %d", f, l, e, want)
	}
}

func isIdle(t *testing.T, p *pair.Pair, want bool) {
	t.Helper()
	if p.Idle() != want {
		t.Fatalf("Idle: %v, want %v", !want, want)
	}
}

func TestNew(t *testing.T) { // P16.1, P16.4
	for _, x := range [][2]api.Echo{
		{alice, bob}, {bob, alice}, {{Id: 0}, {Id: 63}}, {{Id: 63}, {Id: 0}}, {{Id: 0}, {Id: 1}},
		{{Id: 7, Epoch: 9}, {Id: 8, Epoch: 9}}, {{Id: 7, Epoch: api.MaxWord}, {Id: 8}}, {{Id: 7}, {Id: 8, Epoch: api.MaxWord}},
	} {
		for _, y := range [][2]int{{1, 1}, {16, 100}, {1, 100}, {16, 1}, {8, 50}} {
			p := made(t, x[0], x[1], y[0], y[1])
			isIdle(t, p, true)
			sends(t, p)
			again(t, p)
			push(t, p, qry(3))
			sends(t, p, from(x[0], x[1], batchOf(0, qry(3))))
		}
	}
}

func TestWrongSessions(t *testing.T) { // P16.1, R1
	wrong := []api.Echo{
		{Id: -1}, {Id: 64}, {Id: 255}, {Id: math.MinInt}, {Id: math.MaxInt}, {Id: 1 << 32},
		{Id: 3, Epoch: -1}, {Id: 3, Epoch: api.MaxWord + 1}, {Id: 3, Epoch: math.MinInt}, {Id: 3, Epoch: math.MaxInt},
	}
	refused := func(me, peer api.Echo, window, tries int) {
		t.Helper()
		if p, e := pair.New(me, peer, window, tries); p != nil || e != api.ErrArg {
			t.Errorf("New(%v, %v, %d, %d): %v, %d, want nil, ErrArg", me, peer, window, tries, p, e)
		}
	}
	for _, x := range wrong {
		refused(alice, x, 1, 1)
		refused(x, alice, 1, 1)
		refused(x, x, 1, 1)
		refused(x, api.Echo{Id: x.Id + 1}, 1, 1)
	}
	for id := range api.MaxNodes {
		refused(api.Echo{Id: id}, api.Echo{Id: id}, 1, 1)
		refused(api.Echo{Id: id, Epoch: 1}, api.Echo{Id: id, Epoch: 2}, 1, 1)
	}
	for _, n := range []int{0, -1, 17, 101, math.MinInt, math.MaxInt} {
		refused(alice, bob, n, 1)
		refused(alice, bob, n, n)
	}
	for _, n := range []int{0, -1, 101, math.MinInt, math.MaxInt} {
		refused(alice, bob, 1, n)
	}
}

func TestNilPair(t *testing.T) { // P16.1, R1
	var p *pair.Pair
	if e := p.Push(qry(1)); e != api.ErrNil {
		t.Errorf("Push: %d", e)
	}
	if e := p.Push(api.Object{}); e != api.ErrNil {
		t.Errorf("Push: %d", e)
	}
	sends(t, p)
	again(t, p)
	refuses(t, p, api.Frame{}, api.ErrNil)
	refuses(t, p, from(bob, alice, batchOf(0, qry(1))), api.ErrNil)
	isIdle(t, p, true)
}

func TestPush(t *testing.T) { // P16.1: the sender's
	p, _ := two(t, 1, 1)
	for _, o := range []api.Object{{}, {Kind: 5}, {Kind: api.Qry, Dest: 64}, {Kind: api.Qry, Number: 1}} {
		if e := p.Push(o); e != api.ErrArg {
			t.Errorf("Push(%v): %d", o, e)
		}
	}
	isIdle(t, p, true)
	for n := range api.MaxWait {
		push(t, p, qry(n))
	}
	if e := p.Push(qry(0)); e != api.ErrFull {
		t.Errorf("Push: %d", e)
	}
	if e := p.Push(api.Object{}); e != api.ErrArg {
		t.Errorf("Push: %d", e)
	}
	isIdle(t, p, false)
}

func TestAFrameForEachBatch(t *testing.T) { // P16.2
	p, _ := two(t, 3, 3)
	push(t, p, opts(0, 100)...)
	l := []api.Frame{
		from(alice, bob, batchOf(0, opts(0, 21)...)),
		from(alice, bob, batchOf(1, opts(21, 42)...)),
		from(alice, bob, batchOf(2, opts(42, 63)...)),
		from(alice, bob, batchOf(3, opts(63, 84)...)),
		from(alice, bob, batchOf(4, opts(84, 100)...)),
	}
	sends(t, p, l[:3]...)
	sends(t, p)
	again(t, p, l[:3]...)
	hears(t, p, from(bob, alice, ackOf(alice, 1, 1)))
	sends(t, p, l[3])
	again(t, p, l[1], l[3])
	hears(t, p, from(bob, alice, ackOf(alice, 2, 0)))
	sends(t, p, l[4])
	again(t, p, l[3:]...)
	hears(t, p, from(bob, alice, ackOf(alice, 5, 0)))
	isIdle(t, p, true)
	again(t, p)
}

func TestTheAckGoesFirstAndOnce(t *testing.T) { // P16.2
	for _, k := range []int{0, 1, 2} {
		p, q := two(t, 2, 9)
		push(t, q, qry(1))
		hears(t, p, q.Frames()[0], qry(1))
		push(t, p, opts(0, 21*k)...)
		l := []api.Frame{
			from(alice, bob, ackOf(bob, 1, 0), batchOf(0, opts(0, 21)...)),
			from(alice, bob, batchOf(1, opts(21, 42)...)),
		}
		if k == 0 {
			l = []api.Frame{from(alice, bob, ackOf(bob, 1, 0))}
		}
		sends(t, p, l[:max(k, 1)]...)
		sends(t, p)
		isIdle(t, p, k == 0)
		l[0].Parts = l[0].Parts[1:]
		again(t, p, l[:k]...)
	}
}

func TestTheAckGoesWithWhatGoesAgain(t *testing.T) { // P16.2
	for _, k := range []int{0, 1, 2} {
		p, q := two(t, 2, 9)
		push(t, p, opts(0, 21*k)...)
		plain := p.Frames()
		push(t, q, qry(1))
		hears(t, p, q.Frames()[0], qry(1))
		first := []api.Part{ackOf(bob, 1, 0)}
		want := []api.Frame{from(alice, bob, first...)}
		for i, f := range plain {
			if i == 0 {
				want = []api.Frame{from(alice, bob, append(first, f.Parts...)...)}
				continue
			}
			want = append(want, f)
		}
		again(t, p, want...)
		again(t, p, plain...)
		sends(t, p)
		isIdle(t, p, k == 0)
	}
}

func TestAnAckThatCannotGoIsOwedStill(t *testing.T) { // P16.2
	p, q := two(t, 1, 2)
	push(t, p, qry(1), qry(2))
	f := from(alice, bob, batchOf(0, qry(1), qry(2)))
	sends(t, p, f)
	again(t, p, f)
	push(t, q, qry(3))
	hears(t, p, q.Frames()[0], qry(3))
	for range 3 {
		tooOften(t, p)
	}
	sends(t, p, from(alice, bob, ackOf(bob, 1, 0)))
	tooOften(t, p)
	hears(t, p, from(bob, alice, ackOf(alice, 1, 0)))
	again(t, p)
	isIdle(t, p, true)
}

func TestTheAckIsOfAllThatCame(t *testing.T) { // P16.2, P16.3: told when it goes, not when it is first owed
	p, _ := two(t, 1, 1)
	hears(t, p, from(bob, alice, batchOf(3, qry(3))))
	hears(t, p, from(bob, alice, batchOf(1, qry(1))))
	hears(t, p, from(bob, alice, batchOf(0, qry(0))), qry(0), qry(1))
	hears(t, p, from(bob, alice, batchOf(7, qry(7)), batchOf(18, qry(18))))
	sends(t, p, from(alice, bob, ackOf(bob, 2, 1<<0|1<<4|1<<15)))
	sends(t, p)
}

func TestWhoIsToldOfInFrames(t *testing.T) { // P16.2: at the edges of Ids and epochs
	low, high := api.Echo{Id: 0, Epoch: 0}, api.Echo{Id: 63, Epoch: api.MaxWord}
	p, q := made(t, low, high, 1, 1), made(t, high, low, 1, 1)
	push(t, p, qry(4))
	f := api.Frame{From: 0, Epoch: 0, To: 63, Peer: api.MaxWord, Parts: []api.Part{batchOf(0, qry(4))}}
	sends(t, p, f)
	hears(t, q, f, qry(4))
	push(t, q, qry(5))
	g := api.Frame{From: 63, Epoch: api.MaxWord, To: 0, Peer: 0, Parts: []api.Part{acksOf(api.Ack{Next: 1}), batchOf(0, qry(5))}}
	sends(t, q, g)
	hears(t, p, g, qry(5))
	h := api.Frame{From: 0, Epoch: 0, To: 63, Peer: api.MaxWord, Parts: []api.Part{acksOf(api.Ack{Id: 63, Epoch: api.MaxWord, Next: 1})}}
	sends(t, p, h)
	hears(t, q, h)
	isIdle(t, p, true)
	isIdle(t, q, true)
}

// turned is f, with what turn makes of it.
func turned(f api.Frame, turn func(*api.Frame)) api.Frame {
	f.Parts = slices.Clone(f.Parts)
	turn(&f)
	return f
}

// wrongFrames are those that are ErrArg for who hears f, but for one thing each.
func wrongFrames(f api.Frame) []api.Frame {
	l := []api.Frame{
		{},
		turned(f, func(f *api.Frame) { f.Parts = nil }),
		turned(f, func(f *api.Frame) { f.Parts = slices.Repeat(f.Parts, 9) }),
		turned(f, func(f *api.Frame) { f.Parts[0].Kind = 0 }),
		turned(f, func(f *api.Frame) { f.Parts[0].Kind = 5 }),
		turned(f, func(f *api.Frame) { f.Parts[0].Kind = api.PartAcks }),
		turned(f, func(f *api.Frame) { f.Parts[0].Packet.Ttl = 1 }),
		turned(f, func(f *api.Frame) { f.Parts[0].Batch.Objects = nil }),
		turned(f, func(f *api.Frame) { f.Parts[0].Batch.Number = round }),
		turned(f, func(f *api.Frame) { f.Parts = append(f.Parts, acksOf()) }),
		turned(f, func(f *api.Frame) { f.Parts = append(f.Parts, batchOf(1, api.Object{})) }),
		turned(f, func(f *api.Frame) { f.Parts = append(f.Parts, batchOf(1, opts(0, 22)...)) }),
		turned(f, func(f *api.Frame) {
			f.Parts = append(f.Parts, slices.Repeat([]api.Part{batchOf(1, opts(0, 21)...)}, 3)...)
		}),
		turned(f, func(f *api.Frame) { f.To, f.Peer = api.Everyone, 7 }),
	}
	for _, id := range []int{-1, 3, 63, 64, 255, f.To, math.MinInt, math.MaxInt} {
		l = append(l, turned(f, func(f *api.Frame) { f.From = id }))
	}
	for _, id := range []int{-1, 3, 63, 64, 254, 256, f.From, math.MinInt, math.MaxInt} {
		l = append(l, turned(f, func(f *api.Frame) { f.To = id }))
	}
	for _, n := range []int{-1, api.MaxWord + 1, math.MinInt, math.MaxInt} {
		l = append(l, turned(f, func(f *api.Frame) { f.Epoch = n }), turned(f, func(f *api.Frame) { f.Peer = n }))
	}
	return l
}

func TestFramesThatAreRefused(t *testing.T) { // P16.3, R1
	p, _ := two(t, 1, 9)
	push(t, p, qry(9))
	p.Frames()
	good := from(bob, alice, batchOf(0, qry(1)), ackOf(alice, 1, 0))
	for _, f := range wrongFrames(good) {
		refuses(t, p, f, api.ErrArg)
		if f.Epoch == good.Epoch {
			refuses(t, p, turned(f, func(f *api.Frame) { f.Epoch++ }), api.ErrArg)
		}
		if f.Peer == good.Peer {
			refuses(t, p, turned(f, func(f *api.Frame) { f.Peer-- }), api.ErrArg)
		}
	}
	for _, n := range []int{0, 1, 4, 7, 65535, api.MaxWord} {
		refuses(t, p, turned(good, func(f *api.Frame) { f.Epoch = n }), api.ErrOld)
		refuses(t, p, turned(good, func(f *api.Frame) { f.Peer = n }), api.ErrOld)
		refuses(t, p, turned(good, func(f *api.Frame) { f.Epoch, f.Peer = n, n }), api.ErrOld)
	}
	refuses(t, p, turned(good, func(f *api.Frame) { f.Epoch, f.Peer = f.Peer, f.Epoch }), api.ErrOld)
	again(t, p, from(alice, bob, batchOf(0, qry(9))))
	hears(t, p, good, qry(1))
	again(t, p, from(alice, bob, ackOf(bob, 1, 0)))
}

func TestFramesForEveryone(t *testing.T) { // P16.3: of Peer 0, they are for one whose epoch that is
	f := api.Frame{From: 2, Epoch: 6, To: api.Everyone, Parts: []api.Part{batchOf(0, qry(1))}}
	p, _ := two(t, 1, 1)
	refuses(t, p, f, api.ErrOld)
	isIdle(t, p, true)
	q := made(t, api.Echo{Id: 1}, bob, 1, 1)
	hears(t, q, f, qry(1))
	isIdle(t, q, false)
}

func TestPartsInTheirOrder(t *testing.T) { // P16.3
	p, _ := two(t, 1, 9)
	push(t, p, qry(60), qry(61))
	p.Frames()
	push(t, p, qry(62))
	f := from(bob, alice,
		api.Part{Kind: api.PartBeacon, Beacon: api.Beacon{Epoch: 6, Echoes: []api.Echo{alice}}},
		batchOf(1, qry(11), qry(12)),
		ackOf(alice, 1, 0),
		batchOf(0, qry(10)),
		batchOf(0, qry(20)),
		api.Part{Kind: api.PartPacket, Packet: api.Packet{Src: 2, Dst: 1, Ttl: 1, Data: "data"}},
		batchOf(3, qry(14)),
		batchOf(2, qry(13)),
	)
	hears(t, p, f, qry(10), qry(11), qry(12), qry(13), qry(14))
	sends(t, p, from(alice, bob, ackOf(bob, 4, 0), batchOf(1, qry(62))))
}

func TestPartsOfOthers(t *testing.T) { // P16.3
	p, _ := two(t, 1, 1)
	hears(t, p, from(bob, alice, api.Part{Kind: api.PartBeacon, Beacon: api.Beacon{Epoch: 6, Echoes: []api.Echo{alice}}}))
	hears(t, p, from(bob, alice, api.Part{Kind: api.PartPacket, Packet: api.Packet{Src: 2, Dst: 1, Ttl: 1}}))
	isIdle(t, p, true)
	sends(t, p)
	hears(t, p, from(bob, alice, batchOf(0, qry(1))), qry(1))
}

func TestWhenAnAckIsOwed(t *testing.T) { // P16.3, P16.4
	p, _ := two(t, 1, 1)
	owed := func(next, mask int) {
		t.Helper()
		isIdle(t, p, false)
		sends(t, p, from(alice, bob, ackOf(bob, next, mask)))
		isIdle(t, p, true)
	}
	hears(t, p, from(bob, alice, batchOf(2, qry(2))))
	owed(0, 2)
	hears(t, p, from(bob, alice, batchOf(2, qry(2))))
	owed(0, 2)
	hears(t, p, from(bob, alice, batchOf(0, qry(0))), qry(0))
	owed(1, 1)
	hears(t, p, from(bob, alice, batchOf(0, qry(0))))
	owed(1, 1)
	for _, number := range []int{18, 19, 1000, 32768} {
		hears(t, p, from(bob, alice, batchOf(number, qry(0))))
		isIdle(t, p, true)
		sends(t, p)
	}
	hears(t, p, from(bob, alice, batchOf(17, qry(17))))
	owed(1, 1|1<<15)
	hears(t, p, from(bob, alice, batchOf(32769, qry(0))))
	owed(1, 1|1<<15)
	hears(t, p, from(bob, alice, batchOf(65535, qry(0))))
	owed(1, 1|1<<15)
	hears(t, p, from(bob, alice, batchOf(18, qry(18)), batchOf(1, qry(1)), batchOf(500, qry(1))), qry(1), qry(2))
	owed(3, 1<<13)
}

func TestAcksOweNoAck(t *testing.T) { // P16.3: else two would never be idle
	p, _ := two(t, 1, 9)
	push(t, p, qry(1))
	p.Frames()
	for range 3 {
		hears(t, p, from(bob, alice, ackOf(alice, 1, 0)))
		isIdle(t, p, true)
		sends(t, p)
		again(t, p)
	}
}

func TestAcksForOthers(t *testing.T) { // P16.3
	p, _ := two(t, 1, 100)
	push(t, p, qry(1))
	f := from(alice, bob, batchOf(0, qry(1)))
	sends(t, p, f)
	for _, a := range []api.Ack{
		{Id: 2, Epoch: 5, Next: 1}, {Id: 2, Epoch: 6, Next: 1}, {Id: 0, Epoch: 5, Next: 1}, {Id: 63, Epoch: 5, Next: 1},
		{Id: 1, Epoch: 4, Next: 1}, {Id: 1, Epoch: 6, Next: 1}, {Id: 1, Epoch: 0, Next: 1}, {Id: 1, Epoch: api.MaxWord, Next: 1}, {Id: 5, Epoch: 1, Next: 1},
	} {
		hears(t, p, from(bob, alice, acksOf(a)))
		again(t, p, f)
	}
	hears(t, p, from(bob, alice, acksOf(api.Ack{Id: 0, Epoch: 5, Next: 1}, api.Ack{Id: 2, Epoch: 5, Next: 1}, api.Ack{Id: 63, Epoch: 5, Next: 1})))
	isIdle(t, p, false)
	hears(t, p, from(bob, alice, acksOf(api.Ack{Id: 0, Epoch: 5}, api.Ack{Id: 1, Epoch: 5, Next: 1}, api.Ack{Id: 2, Epoch: 5})))
	isIdle(t, p, true)
}

func TestEachRowOfAcksIsTold(t *testing.T) { // P16.3
	p, _ := two(t, 3, 9)
	push(t, p, opts(0, 63)...)
	l := p.Frames()
	hears(t, p, from(bob, alice, ackOf(alice, 0, 1), ackOf(alice, 0, 0), ackOf(alice, 0, 2)))
	again(t, p, l[0])
	hears(t, p, from(bob, alice, ackOf(alice, 0, 0), ackOf(alice, 1, 0)))
	isIdle(t, p, true)
}

func TestIdle(t *testing.T) { // P16.4: each of the three things keeps it from being so
	p, q := two(t, 1, 9)
	push(t, p, qry(1))
	isIdle(t, p, false)
	l := p.Frames()
	isIdle(t, p, false)
	hears(t, q, l[0], qry(1))
	isIdle(t, q, false)
	m := q.Frames()
	isIdle(t, q, true)
	hears(t, p, m[0])
	isIdle(t, p, true)
}

func TestOneWaitsBehindTheWindow(t *testing.T) { // P16.2, P16.4
	p, q := two(t, 1, 9)
	push(t, p, opts(0, 22)...)
	l := p.Frames()
	sends(t, p)
	hears(t, q, l[0], opts(0, 21)...)
	hears(t, p, q.Frames()[0])
	isIdle(t, p, false)
	sends(t, p, from(alice, bob, batchOf(1, opt(21))))
}

func TestNumbersGoRound(t *testing.T) { // P16.5, R5
	p, q := two(t, 2, 2)
	for n := range round + 40 {
		push(t, p, opt(n))
		l := p.Frames()
		told, e := q.Hear(l[0])
		if len(l) != 1 || l[0].Parts[0].Batch.Number != n%round || len(told) != 1 || told[0] != opt(n) || e != api.OK {
			t.Fatalf("%d: %v: %v, %d", n, l, told, e)
		}
		if _, e := p.Hear(q.Frames()[0]); e != api.OK || !p.Idle() || !q.Idle() {
			t.Fatalf("%d: %d", n, e)
		}
	}
}

// roller rolls numbers that look like chance, the same ones in each run.
type roller uint32

func (r *roller) roll(n int) int {
	*r = *r*1664525 + 1013904223
	return int(*r>>8) % n
}

// end is one end of a session, what was pushed there and what it heard, and the mail that is on its way to it.
type end struct {
	pair          *pair.Pair
	pushed, heard []api.Object
	mail          []api.Frame
}

// hear lets the end hear one of its mail, which is there still, if it is to come twice.
func (x *end) hear(t *testing.T, i int, twice bool) {
	t.Helper()
	l, e := x.pair.Hear(x.mail[i])
	if e != api.OK {
		t.Fatalf("Hear(%v): %d", x.mail[i], e)
	}
	x.heard = append(x.heard, l...)
	if !twice {
		x.mail = slices.Delete(x.mail, i, i+1)
	}
}

// isBeginning asks for what the end heard to be the beginning of what was pushed at the other one.
func (x *end) isBeginning(t *testing.T, other *end) {
	t.Helper()
	if len(x.heard) > len(other.pushed) || !slices.Equal(x.heard, other.pushed[:len(x.heard)]) {
		t.Fatalf("heard %v of %v", x.heard, other.pushed)
	}
}

// step does one thing of what may happen to an end.
func step(t *testing.T, r *roller, x, other *end, of int) {
	t.Helper()
	switch r.roll(8) {
	case 0, 1:
		l := opts(of+len(x.pushed), of+len(x.pushed)+r.roll(30))
		push(t, x.pair, l...)
		x.pushed = append(x.pushed, l...)
	case 2:
		other.mail = append(other.mail, x.pair.Frames()...)
	case 3:
		if r.roll(4) == 0 {
			l, _ := x.pair.Again()
			other.mail = append(other.mail, l...)
		}
	case 4:
		if len(x.mail) > 0 {
			i := r.roll(len(x.mail))
			x.mail = slices.Delete(x.mail, i, i+1)
		}
	default:
		if len(x.mail) > 0 {
			x.hear(t, r.roll(len(x.mail)), r.roll(3) == 0)
		}
	}
	for len(x.mail) > 60 {
		x.mail = x.mail[1:]
	}
	x.isBeginning(t, other)
}

// finish lets all frames come, and Again be called, till both are idle.
func finish(t *testing.T, x, y *end) {
	t.Helper()
	for range 400 {
		for _, z := range [][2]*end{{x, y}, {y, x}} {
			l, ok := z[0].pair.Again()
			if !ok {
				t.Fatal("Again: false")
			}
			z[1].mail = append(append(z[1].mail, l...), z[0].pair.Frames()...)
			areRight(t, z[1].mail)
			for len(z[1].mail) > 0 {
				z[1].hear(t, 0, false)
			}
		}
		if x.pair.Idle() && y.pair.Idle() {
			return
		}
	}
	t.Fatal("they are never idle")
}

func TestWhateverIsLostOrTwiceOrLate(t *testing.T) { // P16.5
	for seed := range 60 {
		r := roller(seed)
		window := 1 + r.roll(16)
		p, q := two(t, window, 100)
		x, y := &end{pair: p}, &end{pair: q}
		for range 250 {
			step(t, &r, x, y, 0)
			step(t, &r, y, x, 1<<20)
		}
		finish(t, x, y)
		if !slices.Equal(x.heard, y.pushed) || !slices.Equal(y.heard, x.pushed) {
			t.Fatalf("seed %d: heard %d of %d, %d of %d", seed, len(x.heard), len(y.pushed), len(y.heard), len(x.pushed))
		}
	}
}

// spoil writes into all of l, and into its spare room.
func spoil(l []api.Frame) {
	for i := range l {
		for j := range l[i].Parts {
			x := &l[i].Parts[j]
			for k := range x.Batch.Objects {
				x.Batch.Objects[k] = api.Object{Kind: 77}
			}
			for k := range x.Acks {
				x.Acks[k] = api.Ack{Id: 77}
			}
			_ = append(x.Batch.Objects, api.Object{Kind: 78}, api.Object{Kind: 79})
			_ = append(x.Acks, api.Ack{Id: 78}, api.Ack{Id: 79})
			*x = api.Part{Kind: 77}
		}
		_ = append(l[i].Parts, api.Part{Kind: 78}, api.Part{Kind: 79})
		l[i] = api.Frame{From: 77}
	}
	_ = append(l, api.Frame{From: 78}, api.Frame{From: 79})
}

func TestFramesAreTheirOwn(t *testing.T) { // R2
	p, _ := two(t, 2, 100)
	push(t, p, opts(0, 42)...)
	hears(t, p, from(bob, alice, batchOf(1, qry(2))))
	l := p.Frames()
	plain := []api.Frame{from(alice, bob, batchOf(0, opts(0, 21)...)), from(alice, bob, batchOf(1, opts(21, 42)...))}
	want := []api.Frame{from(alice, bob, ackOf(bob, 0, 1), batchOf(0, opts(0, 21)...)), plain[1]}
	one, _ := p.Again()
	if !alike(l, want) || !alike(one, plain) {
		t.Fatalf("%v, %v", l, one)
	}
	spoil(one)
	if !alike(l, want) {
		t.Fatalf("%v is of another answer", l)
	}
	spoil(l[:1])
	if !alike(l[1:], want[1:]) {
		t.Fatalf("%v is of another frame", l[1])
	}
	again(t, p, plain...)
	hears(t, p, from(bob, alice, batchOf(0, qry(1))), qry(1), qry(2))
	again(t, p, from(alice, bob, ackOf(bob, 2, 0), batchOf(0, opts(0, 21)...)), plain[1])
}

func TestFramesHandedInAreNotKept(t *testing.T) { // R2
	p, _ := two(t, 2, 100)
	f := from(bob, alice, batchOf(1, qry(2), qry(3)), ackOf(alice, 0, 0))
	same := from(bob, alice, batchOf(1, qry(2), qry(3)), ackOf(alice, 0, 0))
	hears(t, p, f)
	if !alike([]api.Frame{f}, []api.Frame{same}) {
		t.Fatalf("Hear writes: %v", f)
	}
	spoil([]api.Frame{f})
	g := from(bob, alice, batchOf(0, qry(1)))
	l, e := p.Hear(g)
	if !slices.Equal(l, []api.Object{qry(1), qry(2), qry(3)}) || e != api.OK {
		t.Fatalf("Hear: %v, %d", l, e)
	}
	for i := range l {
		l[i] = api.Object{Kind: 77}
	}
	if g.Parts[0].Batch.Objects[0] != qry(1) {
		t.Fatal("the answer is the list that was handed in")
	}
}

func TestPairsDoNotMeet(t *testing.T) { // R2
	a, b := two(t, 2, 2)
	other := made(t, alice, api.Echo{Id: 9, Epoch: 6}, 2, 2)
	push(t, a, qry(1))
	l := a.Frames()
	hears(t, b, l[0], qry(1))
	isIdle(t, other, true)
	refuses(t, other, l[0], api.ErrArg)
	push(t, other, qry(7))
	sends(t, other, api.Frame{From: 1, Epoch: 5, To: 9, Peer: 6, Parts: []api.Part{batchOf(0, qry(7))}})
	again(t, a, l...)
	sends(t, b, from(bob, alice, ackOf(alice, 1, 0)))
}

func TestWorkersDoNotMeet(t *testing.T) { // R2
	var all sync.WaitGroup
	wrong := make([]int, 8)
	for k := range wrong {
		all.Go(func() {
			p, _ := pair.New(alice, bob, k+1, 2)
			q, _ := pair.New(bob, alice, k+1, 2)
			for i := range 200 {
				e := p.Push(opt(i + k))
				l := p.Frames()
				told, d := q.Hear(l[0])
				m := q.Frames()
				_, c := p.Hear(m[0])
				if e != api.OK || d != api.OK || c != api.OK || len(l) != 1 || len(m) != 1 || !slices.Equal(told, opts(i+k, i+k+1)) || !p.Idle() || !q.Idle() {
					wrong[k]++
				}
			}
		})
	}
	all.Wait()
	for k, n := range wrong {
		if n != 0 {
			t.Errorf("worker %d: %d answers of others", k, n)
		}
	}
}
