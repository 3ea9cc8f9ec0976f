package cast_test

import (
	"math"
	"reflect"
	"slices"
	"sync"
	"testing"

	"thalweg/api"
	"thalweg/cast"
	"thalweg/frame"
	"thalweg/pair"
)

const round = 65536 // numbers there are

var (
	me    = api.Echo{Id: 10, Epoch: 5}
	bob   = api.Echo{Id: 2, Epoch: 6}
	carol = api.Echo{Id: 30, Epoch: 7}
	dave  = api.Echo{Id: 63}
)

// ids are wrong as nodes.
var ids = []int{-1, 64, 65, 128, 254, 255, 256, 1 << 32, math.MinInt, math.MaxInt}

func made(t *testing.T, who api.Echo, window, tries int, peers ...api.Echo) *cast.Cast {
	t.Helper()
	c, e := cast.New(who, window, tries)
	if c == nil || e != api.OK {
		t.Fatalf("New(%v, %d, %d): %v, %d", who, window, tries, c, e)
	}
	for _, x := range peers {
		up(t, c, x, api.OK)
	}
	return c
}

func up(t *testing.T, c *cast.Cast, peer api.Echo, want api.Errno) {
	t.Helper()
	if e := c.Up(peer); e != want {
		t.Fatalf("Up(%v): %d, want %d", peer, e, want)
	}
}

func down(t *testing.T, c *cast.Cast, id int, want api.Errno) {
	t.Helper()
	if e := c.Down(id); e != want {
		t.Fatalf("Down(%d): %d, want %d", id, e, want)
	}
}

func peers(t *testing.T, c *cast.Cast, want ...api.Echo) {
	t.Helper()
	if l := c.Peers(); !slices.Equal(l, want) {
		t.Fatalf("Peers: %v, want %v", l, want)
	}
}

func qry(dest int) api.Object { return api.Object{Kind: api.Qry, Dest: dest % api.MaxNodes} }

// opt is an object by which n is to be known. Of these 21 are a batch.
func opt(n int) api.Object {
	return api.Object{Kind: api.Opt, Dest: n / round % api.MaxNodes, Height: api.Height{Delta: n, Id: 1}, Number: n % round}
}

// opts are the objects from to less than to.
func opts(from, to int) []api.Object {
	var l []api.Object
	for n := from; n < to; n++ {
		l = append(l, opt(n))
	}
	return l
}

// push asks in how many sessions each of l waits.
func push(t *testing.T, c *cast.Cast, to, want int, l ...api.Object) {
	t.Helper()
	for _, o := range l {
		if n, e := c.Push(to, o); n != want || e != api.OK {
			t.Fatalf("Push(%d, %v): %d, %d, want %d, OK", to, o, n, e, want)
		}
	}
}

func notPushed(t *testing.T, c *cast.Cast, to int, o api.Object, want api.Errno) {
	t.Helper()
	if n, e := c.Push(to, o); n != 0 || e != want {
		t.Fatalf("Push(%d, %v): %d, %d, want 0, %d", to, o, n, e, want)
	}
}

// from is a frame that one node sends to another one.
func from(who, peer api.Echo, parts ...api.Part) api.Frame {
	return api.Frame{From: who.Id, Epoch: who.Epoch, To: peer.Id, Peer: peer.Epoch, Parts: parts}
}

func batchOf(number int, l ...api.Object) api.Part {
	return api.Part{Kind: api.PartBatch, Batch: api.Batch{Number: number, Objects: l}}
}

// ackOf is the part that tells who it is for that all ahead of next came.
func ackOf(who api.Echo, next int) api.Part {
	return api.Part{Kind: api.PartAcks, Acks: []api.Ack{{Id: who.Id, Epoch: who.Epoch, Next: next}}}
}

func alike(l, m []api.Frame) bool {
	return slices.EqualFunc(l, m, func(f, g api.Frame) bool { return reflect.DeepEqual(f, g) })
}

// sends asks for the frames that are new.
func sends(t *testing.T, c *cast.Cast, want ...api.Frame) {
	t.Helper()
	l := c.Frames()
	if !alike(l, want) {
		t.Fatalf("Frames: %v, want %v", l, want)
	}
	for _, f := range l {
		if frame.Check(f) != api.OK {
			t.Fatalf("%v is not right", f)
		}
	}
}

// again asks for the frames that go out again, and for the Ids of those of whom nothing is heard.
func again(t *testing.T, c *cast.Cast, lost []int, want ...api.Frame) {
	t.Helper()
	if l, m := c.Again(); !alike(l, want) || !slices.Equal(m, lost) {
		t.Fatalf("Again: %v, %v, want %v, %v", l, m, want, lost)
	}
}

// said are objects of who.
func said(who api.Echo, l ...api.Object) []api.Said {
	var m []api.Said
	for _, o := range l {
		m = append(m, api.Said{From: who.Id, Object: o})
	}
	return m
}

func hears(t *testing.T, c *cast.Cast, f api.Frame, want ...api.Said) {
	t.Helper()
	if l, e := c.Hear(f); !slices.Equal(l, want) || e != api.OK {
		t.Fatalf("Hear(%v): %v, %d, want %v, OK", f, l, e, want)
	}
}

func refuses(t *testing.T, c *cast.Cast, f api.Frame, want api.Errno) {
	t.Helper()
	if l, e := c.Hear(f); len(l) != 0 || e != want {
		t.Fatalf("Hear(%v): %v, %d, want none, %d", f, l, e, want)
	}
}

func isIdle(t *testing.T, c *cast.Cast, want bool) {
	t.Helper()
	if c.Idle() != want {
		t.Fatalf("Idle: %v, want %v", !want, want)
	}
}

func TestNew(t *testing.T) { // P17.1, P17.5: without sessions
	for _, x := range []api.Echo{{}, {Id: 1}, {Id: 62, Epoch: 1}, {Id: 63}, {Id: 63, Epoch: api.MaxWord}, {Epoch: api.MaxWord}, me} {
		for _, y := range [][2]int{{1, 1}, {16, 100}, {1, 100}, {16, 1}, {8, 50}} {
			c := made(t, x, y[0], y[1])
			peers(t, c)
			sends(t, c)
			again(t, c, nil)
			isIdle(t, c, true)
			push(t, c, api.Everyone, 0, qry(1))
			for id := range api.MaxNodes {
				notPushed(t, c, id, qry(1), api.ErrNone)
				down(t, c, id, api.ErrNone)
			}
			refuses(t, c, from(api.Echo{Id: (x.Id + 1) % 64}, x, batchOf(0, qry(1))), api.ErrNone)
			sends(t, c)
		}
	}
}

func TestWrongCasts(t *testing.T) { // P17.1, R1
	refused := func(who api.Echo, window, tries int) {
		t.Helper()
		if c, e := cast.New(who, window, tries); c != nil || e != api.ErrArg {
			t.Errorf("New(%v, %d, %d): %v, %d, want nil, ErrArg", who, window, tries, c, e)
		}
	}
	for _, id := range append([]int{-2, -63, -64, -65}, ids...) {
		refused(api.Echo{Id: id}, 1, 1)
	}
	for _, n := range []int{-1, api.MaxWord + 1, math.MinInt, math.MaxInt} {
		refused(api.Echo{Id: 3, Epoch: n}, 1, 1)
	}
	for _, n := range []int{0, -1, 17, 100, math.MinInt, math.MaxInt} {
		refused(me, n, 1)
	}
	for _, n := range []int{0, -1, 101, math.MinInt, math.MaxInt} {
		refused(me, 1, n)
	}
}

func TestNilCast(t *testing.T) { // P17.1, R1: whatever it is asked
	var c *cast.Cast
	for _, x := range []api.Echo{bob, {Id: 64}} {
		up(t, c, x, api.ErrNil)
		down(t, c, x.Id, api.ErrNil)
		notPushed(t, c, x.Id, qry(1), api.ErrNil)
		notPushed(t, c, x.Id, api.Object{}, api.ErrNil)
		refuses(t, c, from(x, me, batchOf(0, qry(1))), api.ErrNil)
	}
	notPushed(t, c, api.Everyone, qry(1), api.ErrNil)
	refuses(t, c, api.Frame{}, api.ErrNil)
	peers(t, c)
	sends(t, c)
	again(t, c, nil)
	isIdle(t, c, true)
}

func TestPeersAreInTheOrderOfIds(t *testing.T) { // P17.1
	for _, who := range []int{0, 10, 63} {
		c := made(t, api.Echo{Id: who}, 1, 1)
		var want []api.Echo
		for n := range api.MaxNodes {
			x := api.Echo{Id: n * 37 % api.MaxNodes, Epoch: n}
			if x.Id == who {
				up(t, c, x, api.ErrArg)
				continue
			}
			up(t, c, x, api.OK)
			want = append(want, x)
			slices.SortFunc(want, func(x, y api.Echo) int { return x.Id - y.Id })
			peers(t, c, want...)
		}
		push(t, c, api.Everyone, 63, qry(5))
		for len(want) > 0 {
			i := len(want) * 3 / 7
			down(t, c, want[i].Id, api.OK)
			down(t, c, want[i].Id, api.ErrNone)
			want = slices.Delete(want, i, i+1)
			peers(t, c, want...)
		}
		isIdle(t, c, true)
	}
}

func TestUpThatIsRefused(t *testing.T) { // P17.1, R1
	c := made(t, me, 1, 1, bob)
	wrong := []api.Echo{me, {Id: me.Id}, {Id: 3, Epoch: -1}, {Id: 3, Epoch: api.MaxWord + 1}, {Id: 3, Epoch: math.MinInt}, {Id: 3, Epoch: math.MaxInt}, {Id: bob.Id, Epoch: -1}, {Id: bob.Id, Epoch: api.MaxWord + 1}}
	for _, id := range ids {
		wrong = append(wrong, api.Echo{Id: id})
	}
	for _, x := range wrong {
		up(t, c, x, api.ErrArg)
	}
	push(t, c, bob.Id, 1, qry(1))
	for _, n := range []int{0, bob.Epoch - 1, bob.Epoch, bob.Epoch + 1, api.MaxWord} {
		up(t, c, api.Echo{Id: bob.Id, Epoch: n}, api.ErrThere)
	}
	peers(t, c, bob)
	sends(t, c, from(me, bob, batchOf(0, qry(1))))
}

func TestDownThatIsRefused(t *testing.T) { // P17.1, R1
	c := made(t, me, 1, 1, bob, carol)
	for _, id := range append([]int{0, 1, 3, me.Id, 63}, ids...) {
		down(t, c, id, api.ErrNone)
	}
	peers(t, c, bob, carol)
}

func TestASessionThatWasDownIsNew(t *testing.T) { // P17.1
	c := made(t, me, 1, 9, bob, carol)
	push(t, c, api.Everyone, 2, qry(1))
	l := []api.Frame{from(me, bob, batchOf(0, qry(1))), from(me, carol, batchOf(0, qry(1)))}
	sends(t, c, l...)
	hears(t, c, from(bob, me, batchOf(0, qry(4))), said(bob, qry(4))...)
	push(t, c, bob.Id, 1, qry(2))
	down(t, c, bob.Id, api.OK)
	refuses(t, c, from(bob, me, batchOf(1, qry(5))), api.ErrNone)
	notPushed(t, c, bob.Id, qry(3), api.ErrNone)
	again(t, c, nil, l[1])
	bill := api.Echo{Id: bob.Id, Epoch: bob.Epoch + 1}
	up(t, c, bill, api.OK)
	peers(t, c, bill, carol)
	sends(t, c)
	refuses(t, c, from(bob, me, batchOf(0, qry(5))), api.ErrOld)
	hears(t, c, from(bill, me, batchOf(0, qry(6))), said(bill, qry(6))...)
	push(t, c, bob.Id, 1, qry(3))
	sends(t, c, from(me, bill, ackOf(bill, 1), batchOf(0, qry(3))))
	again(t, c, nil, from(me, bill, batchOf(0, qry(3))), l[1])
}

func TestSessionsHaveTheWindowAndTheTries(t *testing.T) { // P17.1
	for window := 1; window <= api.MaxWindow; window += 5 {
		for tries := 1; tries <= 4; tries++ {
			c := made(t, me, window, tries, carol, bob)
			push(t, c, api.Everyone, 2, opts(0, 21*window+1)...)
			l := c.Frames()
			if len(l) != 2*window {
				t.Fatalf("Frames: %d of window %d", len(l), window)
			}
			for range tries - 1 {
				again(t, c, nil, l...)
			}
			again(t, c, []int{bob.Id, carol.Id})
		}
	}
}

func TestPush(t *testing.T) { // P17.2
	c := made(t, me, 1, 1, dave, bob, carol)
	push(t, c, carol.Id, 1, qry(1))
	push(t, c, api.Everyone, 3, qry(2))
	push(t, c, bob.Id, 1, qry(3))
	push(t, c, dave.Id, 1, qry(4))
	push(t, c, api.Everyone, 3, qry(5))
	sends(t, c,
		from(me, bob, batchOf(0, qry(2), qry(3), qry(5))),
		from(me, carol, batchOf(0, qry(1), qry(2), qry(5))),
		from(me, dave, batchOf(0, qry(2), qry(4), qry(5))),
	)
}

func TestPushAtTheEdgesOfIds(t *testing.T) { // P17.2
	c := made(t, me, 1, 1, api.Echo{Id: 0}, dave)
	push(t, c, 0, 1, qry(1))
	push(t, c, 63, 1, qry(2))
	sends(t, c, from(me, api.Echo{Id: 0}, batchOf(0, qry(1))), from(me, dave, batchOf(0, qry(2))))
}

func TestPushThatIsRefused(t *testing.T) { // P17.2, R1
	c := made(t, me, 1, 1, bob)
	wrong := []api.Object{{}, {Kind: 5, Dest: 1}, {Kind: api.Qry, Dest: 64}, {Kind: api.Qry, Dest: -1}, {Kind: api.Qry, Number: 1}}
	for _, to := range append([]int{0, bob.Id, 3, me.Id, 63}, ids...) {
		for _, o := range wrong {
			notPushed(t, c, to, o, api.ErrArg)
		}
		switch {
		case to == bob.Id, to == api.Everyone:
		case to < 0, to > 63:
			notPushed(t, c, to, qry(1), api.ErrArg)
		default:
			notPushed(t, c, to, qry(1), api.ErrNone)
		}
	}
	isIdle(t, c, true)
	sends(t, c)
	for _, o := range wrong {
		notPushed(t, made(t, me, 1, 1), api.Everyone, o, api.ErrArg)
	}
}

func TestSessionsThatAreFull(t *testing.T) { // P17.2
	c := made(t, me, 1, 1, bob, carol, dave)
	for n := range api.MaxWait {
		push(t, c, carol.Id, 1, opt(n))
	}
	notPushed(t, c, carol.Id, opt(api.MaxWait), api.ErrFull)
	notPushed(t, c, carol.Id, api.Object{}, api.ErrArg)
	push(t, c, api.Everyone, 2, qry(1))
	push(t, c, bob.Id, 1, qry(2))
	sends(t, c,
		from(me, bob, batchOf(0, qry(1), qry(2))),
		from(me, carol, batchOf(0, opts(0, 21)...)),
		from(me, dave, batchOf(0, qry(1))),
	)
	push(t, c, api.Everyone, 3, qry(3))
	for range api.MaxWait - 1 {
		c.Push(api.Everyone, qry(4))
	}
	push(t, c, api.Everyone, 0, qry(5))
	for _, x := range []api.Echo{bob, carol, dave} {
		notPushed(t, c, x.Id, qry(6), api.ErrFull)
	}
	notPushed(t, c, 0, qry(6), api.ErrNone)
	down(t, c, dave.Id, api.OK)
	up(t, c, dave, api.OK)
	push(t, c, api.Everyone, 1, qry(7))
	sends(t, c, from(me, dave, batchOf(0, qry(7))))
}

func TestFramesAndAcks(t *testing.T) { // P17.3
	c := made(t, me, 2, 9, dave, carol, bob)
	push(t, c, carol.Id, 1, opts(0, 43)...)
	hears(t, c, from(dave, me, batchOf(0, qry(1))), said(dave, qry(1))...)
	l := []api.Frame{
		from(me, carol, batchOf(0, opts(0, 21)...)),
		from(me, carol, batchOf(1, opts(21, 42)...)),
	}
	sends(t, c, append(slices.Clone(l), from(me, dave, ackOf(dave, 1)))...)
	sends(t, c)
	hears(t, c, from(dave, me, batchOf(0, qry(1))))
	hears(t, c, from(bob, me, batchOf(0, qry(2)), batchOf(1, qry(3))), said(bob, qry(2), qry(3))...)
	again(t, c, nil, from(me, bob, ackOf(bob, 2)), l[0], l[1], from(me, dave, ackOf(dave, 1)))
	again(t, c, nil, l...)
	hears(t, c, from(carol, me, ackOf(me, 1)))
	sends(t, c, from(me, carol, batchOf(2, opt(42))))
	again(t, c, nil, l[1], from(me, carol, batchOf(2, opt(42))))
}

func TestWhomNothingIsHeardOf(t *testing.T) { // P17.3
	c := made(t, me, 1, 2, bob, carol, dave, api.Echo{Id: 0})
	push(t, c, carol.Id, 1, qry(1))
	push(t, c, 0, 1, qry(2))
	l := c.Frames()
	again(t, c, nil, l...)
	push(t, c, bob.Id, 1, qry(3))
	hears(t, c, from(dave, me, batchOf(0, qry(4))), said(dave, qry(4))...)
	f := from(me, bob, batchOf(0, qry(3)))
	sends(t, c, f, from(me, dave, ackOf(dave, 1)))
	again(t, c, []int{0, carol.Id}, f)
	push(t, c, dave.Id, 1, qry(5))
	sends(t, c, from(me, dave, batchOf(0, qry(5))))
	again(t, c, []int{0, bob.Id, carol.Id}, from(me, dave, batchOf(0, qry(5))))
	hears(t, c, from(carol, me, ackOf(me, 1)))
	again(t, c, []int{0, bob.Id, dave.Id})
	down(t, c, 0, api.OK)
	again(t, c, []int{bob.Id, dave.Id})
}

// turned is f, with what turn makes of it.
func turned(f api.Frame, turn func(*api.Frame)) api.Frame {
	f.Parts = slices.Clone(f.Parts)
	turn(&f)
	return f
}

func TestFramesThatAreRefused(t *testing.T) { // P17.4, R1
	c := made(t, me, 1, 1, bob, carol)
	good := from(bob, me, batchOf(0, qry(1)))
	wrong := []api.Frame{
		{},
		turned(good, func(f *api.Frame) { f.Parts = nil }),
		turned(good, func(f *api.Frame) { f.Parts[0].Kind = 5 }),
		turned(good, func(f *api.Frame) { f.Parts[0].Batch.Objects = nil }),
		turned(good, func(f *api.Frame) { f.Parts = slices.Repeat(f.Parts, 9) }),
		turned(good, func(f *api.Frame) { f.From = me.Id }),
		turned(good, func(f *api.Frame) { f.To, f.Peer = api.Everyone, 7 }),
		turned(good, func(f *api.Frame) { f.To, f.Epoch = 11, 1 }),
		turned(good, func(f *api.Frame) { f.From, f.Epoch = 3, -1 }),
		turned(good, func(f *api.Frame) { f.From, f.To = 3, 11 }),
	}
	for _, id := range ids {
		wrong = append(wrong, turned(good, func(f *api.Frame) { f.From = id }))
		if id != api.Everyone {
			wrong = append(wrong, turned(good, func(f *api.Frame) { f.To = id }))
		}
	}
	for _, id := range []int{0, 9, 11, 63, bob.Id, carol.Id} {
		wrong = append(wrong, turned(good, func(f *api.Frame) { f.To = id }))
	}
	for _, n := range []int{-1, api.MaxWord + 1, math.MinInt, math.MaxInt} {
		wrong = append(wrong, turned(good, func(f *api.Frame) { f.Epoch = n }), turned(good, func(f *api.Frame) { f.Peer = n }))
	}
	for _, f := range wrong {
		refuses(t, c, f, api.ErrArg)
	}
	for _, id := range []int{0, 1, 3, 29, 31, 63} {
		refuses(t, c, turned(good, func(f *api.Frame) { f.From = id }), api.ErrNone)
		refuses(t, c, turned(good, func(f *api.Frame) { f.From, f.Epoch, f.Peer = id, 0, 0 }), api.ErrNone)
		refuses(t, c, turned(good, func(f *api.Frame) { f.From, f.To, f.Peer = id, api.Everyone, 0 }), api.ErrNone)
	}
	for _, n := range []int{0, 1, 7, api.MaxWord} {
		refuses(t, c, turned(good, func(f *api.Frame) { f.Epoch = n }), api.ErrOld)
		refuses(t, c, turned(good, func(f *api.Frame) { f.Peer = n }), api.ErrOld)
	}
	refuses(t, c, turned(good, func(f *api.Frame) { f.From = carol.Id }), api.ErrOld)
	isIdle(t, c, true)
	hears(t, c, good, said(bob, qry(1))...)
}

func TestHearTellsWho(t *testing.T) { // P17.4
	c := made(t, me, 1, 1, bob, carol, api.Echo{Id: 0}, dave)
	hears(t, c, from(carol, me, batchOf(1, qry(2), qry(3))))
	hears(t, c, from(bob, me, batchOf(0, qry(1), qry(4)), batchOf(1, qry(5))), said(bob, qry(1), qry(4), qry(5))...)
	hears(t, c, from(carol, me, batchOf(0, qry(1))), said(carol, qry(1), qry(2), qry(3))...)
	hears(t, c, from(api.Echo{Id: 0}, me, batchOf(0, opt(9))), said(api.Echo{Id: 0}, opt(9))...)
	hears(t, c, from(dave, me, batchOf(0, opt(9))), said(dave, opt(9))...)
	hears(t, c, from(dave, me, batchOf(0, opt(9))))
	hears(t, c, from(dave, me, ackOf(me, 0)))
}

func TestFramesForEveryone(t *testing.T) { // P17.4: of Peer 0, they are for one whose epoch that is
	f := api.Frame{From: bob.Id, Epoch: bob.Epoch, To: api.Everyone, Parts: []api.Part{batchOf(0, qry(1))}}
	refuses(t, made(t, me, 1, 1, bob), f, api.ErrOld)
	hears(t, made(t, api.Echo{Id: 10}, 1, 1, bob), f, said(bob, qry(1))...)
}

func TestIdle(t *testing.T) { // P17.5: each session keeps it from being so
	c := made(t, me, 1, 9, bob, carol, dave)
	isIdle(t, c, true)
	for _, x := range []api.Echo{bob, carol, dave} {
		push(t, c, x.Id, 1, qry(1))
		isIdle(t, c, false)
		c.Frames()
		isIdle(t, c, false)
		hears(t, c, from(x, me, ackOf(me, 1)))
		isIdle(t, c, true)
		hears(t, c, from(x, me, batchOf(0, qry(2))), said(x, qry(2))...)
		isIdle(t, c, false)
		c.Frames()
		isIdle(t, c, true)
	}
	push(t, c, api.Everyone, 3, qry(3))
	for _, x := range []api.Echo{carol, bob, dave} {
		isIdle(t, c, false)
		down(t, c, x.Id, api.OK)
	}
	isIdle(t, c, true)
}

// roller rolls numbers that look like chance, the same ones in each run.
type roller uint32

func (r *roller) roll(n int) int {
	*r = *r*1664525 + 1013904223
	return int(*r>>8) % n
}

// node is one of a network: its cast, what was pushed there for each other one, and what of each it heard.
type node struct {
	who           api.Echo
	cast          *cast.Cast
	pushed, heard [4][]api.Object
}

// network is some nodes that have sessions with one another, and the mail that is on its way.
type network struct {
	nodes []*node
	mail  []api.Frame
}

func newNetwork(t *testing.T, window, tries int) *network {
	t.Helper()
	w := &network{}
	for id := range 4 {
		x := &node{who: api.Echo{Id: id, Epoch: 100 + id}}
		x.cast = made(t, x.who, window, tries)
		w.nodes = append(w.nodes, x)
	}
	for _, x := range w.nodes {
		for _, y := range w.nodes {
			if x != y {
				up(t, x.cast, y.who, api.OK)
			}
		}
	}
	return w
}

// say pushes o at x for to, or for everyone.
func (w *network) say(t *testing.T, x *node, to int, o api.Object) {
	t.Helper()
	want := 1
	if to == api.Everyone {
		want = len(w.nodes) - 1
	}
	push(t, x.cast, to, want, o)
	for id := range w.nodes {
		if id != x.who.Id && (to == id || to == api.Everyone) {
			x.pushed[id] = append(x.pushed[id], o)
		}
	}
}

// come lets one of the mail come, which is there still, if it is to come twice.
func (w *network) come(t *testing.T, i int, twice bool) {
	t.Helper()
	f := w.mail[i]
	x := w.nodes[f.To]
	l, e := x.cast.Hear(f)
	if e != api.OK {
		t.Fatalf("Hear(%v): %d", f, e)
	}
	for _, y := range l {
		if y.From != f.From {
			t.Fatalf("%v, of a frame of %d", y, f.From)
		}
		x.heard[f.From] = append(x.heard[f.From], y.Object)
	}
	if !twice {
		w.mail = slices.Delete(w.mail, i, i+1)
	}
}

// step does one thing of what may happen in a network.
func (w *network) step(t *testing.T, r *roller, n int) {
	t.Helper()
	x := w.nodes[r.roll(len(w.nodes))]
	switch r.roll(10) {
	case 0, 1:
		w.say(t, x, api.Everyone, opt(n))
	case 2, 3:
		w.say(t, x, (x.who.Id+1+r.roll(3))%4, opt(n))
	case 4, 5:
		w.mail = append(w.mail, x.cast.Frames()...)
	case 6:
		l, _ := x.cast.Again()
		w.mail = append(w.mail, l...)
	case 7:
		if len(w.mail) > 0 {
			i := r.roll(len(w.mail))
			w.mail = slices.Delete(w.mail, i, i+1)
		}
	default:
		if len(w.mail) > 0 {
			w.come(t, r.roll(len(w.mail)), r.roll(3) == 0)
		}
	}
	for len(w.mail) > 60 {
		w.mail = w.mail[1:]
	}
}

// finish lets all mail come, and Again be called, till all nodes are idle.
func (w *network) finish(t *testing.T) {
	t.Helper()
	for range 100 {
		idle := true
		for _, x := range w.nodes {
			l, lost := x.cast.Again()
			if len(lost) > 0 {
				t.Fatalf("nothing is heard of %v", lost)
			}
			w.mail = append(append(w.mail, l...), x.cast.Frames()...)
			for len(w.mail) > 0 {
				w.come(t, 0, false)
			}
		}
		for _, x := range w.nodes {
			idle = idle && x.cast.Idle()
		}
		if idle {
			return
		}
	}
	t.Fatal("they are never idle")
}

// toldAll asks whether each node heard of each other one what was pushed there for it: all of it, or else its beginning.
func (w *network) toldAll(t *testing.T, all bool) {
	t.Helper()
	for i, x := range w.nodes {
		for j, y := range w.nodes {
			l, m := y.heard[i], x.pushed[j]
			if len(l) > len(m) || all && len(l) < len(m) || !slices.Equal(l, m[:len(l)]) {
				t.Fatalf("%d heard %v of %d, who pushed %v", j, l, i, m)
			}
		}
	}
}

func TestWhateverIsLostOrTwiceOrLate(t *testing.T) { // P17.6: each is told all that everyone is told, once, in order
	for seed := range 40 {
		r := roller(seed)
		w := newNetwork(t, 1+r.roll(4), 100)
		for n := range 300 {
			w.step(t, &r, n)
			w.toldAll(t, false)
		}
		w.finish(t)
		w.toldAll(t, true)
	}
}

// alone are the sessions of a cast as it would be if each one were alone.
type alone map[int]*pair.Pair

func (a alone) push(to int, o api.Object) (int, api.Errno) {
	if to != api.Everyone && a[to] == nil {
		return 0, api.ErrNone
	}
	n := 0
	for id, p := range a {
		if to != id && to != api.Everyone {
			continue
		}
		e := p.Push(o)
		if e == api.OK {
			n++
		} else if to == id {
			return 0, e
		}
	}
	return n, api.OK
}

func (a alone) frames() []api.Frame {
	var l []api.Frame
	for id := range api.MaxNodes {
		l = append(l, a[id].Frames()...)
	}
	return l
}

func (a alone) again() ([]api.Frame, []int) {
	var l []api.Frame
	var lost []int
	for id := range api.MaxNodes {
		m, ok := a[id].Again()
		l = append(l, m...)
		if !ok {
			lost = append(lost, id)
		}
	}
	return l, lost
}

func (a alone) idle() bool {
	for _, p := range a {
		if !p.Idle() {
			return false
		}
	}
	return true
}

// some is a frame to me of a node, with a batch or an ack.
func some(r *roller) api.Frame {
	who := api.Echo{Id: r.roll(6), Epoch: r.roll(8) / 7}
	if r.roll(2) == 0 {
		return from(who, me, ackOf(me, r.roll(4)))
	}
	return from(who, me, batchOf(r.roll(5), opt(r.roll(9)), opt(r.roll(9))))
}

func TestCastsAreTheirSessions(t *testing.T) { // P17.1 to P17.6: what one is told turns no other one
	for seed := range 100 {
		r := roller(seed)
		window, tries := 1+r.roll(3), 1+r.roll(9)
		c, a := made(t, me, window, tries), alone{}
		for n := range 150 {
			id := r.roll(6)
			switch r.roll(9) {
			case 0:
				p, _ := pair.New(me, api.Echo{Id: id}, window, tries)
				want := api.ErrThere
				if a[id] == nil {
					a[id], want = p, api.OK
				}
				up(t, c, api.Echo{Id: id}, want)
			case 1:
				if r.roll(3) == 0 {
					want := api.ErrNone
					if a[id] != nil {
						want = api.OK
					}
					delete(a, id)
					down(t, c, id, want)
				}
			case 2, 3:
				to := []int{id, api.Everyone}[r.roll(2)]
				for range 1 + r.roll(2)*r.roll(60) {
					m, d := a.push(to, opt(n))
					if k, e := c.Push(to, opt(n)); k != m || e != d {
						t.Fatalf("seed %d: Push(%d): %d, %d, want %d, %d", seed, to, k, e, m, d)
					}
				}
			case 4:
				sends(t, c, a.frames()...)
			case 5:
				l, lost := a.again()
				again(t, c, lost, l...)
			default:
				f := some(&r)
				if a[f.From] == nil {
					refuses(t, c, f, api.ErrNone)
				} else if l, e := a[f.From].Hear(f); e != api.OK {
					refuses(t, c, f, e)
				} else {
					hears(t, c, f, said(api.Echo{Id: f.From}, l...)...)
				}
			}
			isIdle(t, c, a.idle())
		}
	}
}

// spoil writes into all of l, and into its spare room.
func spoil(l []api.Frame) {
	for i := range l {
		for j := range l[i].Parts {
			x := &l[i].Parts[j]
			for k := range x.Batch.Objects {
				x.Batch.Objects[k] = api.Object{Kind: 77}
			}
			for k := range x.Acks {
				x.Acks[k] = api.Ack{Id: 77}
			}
			_ = append(x.Batch.Objects, api.Object{Kind: 78}, api.Object{Kind: 79})
			*x = api.Part{Kind: 77}
		}
		_ = append(l[i].Parts, api.Part{Kind: 78}, api.Part{Kind: 79})
		l[i] = api.Frame{From: 77}
	}
	_ = append(l, api.Frame{From: 78}, api.Frame{From: 79})
}

func TestAnswersAreTheirOwn(t *testing.T) { // R2
	c := made(t, me, 1, 9, bob, carol)
	for range 2 {
		l := c.Peers()
		_ = append(l, dave)
		l[0], l[1] = dave, dave
	}
	peers(t, c, bob, carol)
	push(t, c, api.Everyone, 2, opts(0, 21)...)
	want := []api.Frame{from(me, bob, batchOf(0, opts(0, 21)...)), from(me, carol, batchOf(0, opts(0, 21)...))}
	l := c.Frames()
	m, _ := c.Again()
	if !alike(l, want) || !alike(m, want) {
		t.Fatalf("%v, %v, want %v", l, m, want)
	}
	spoil(m)
	if !alike(l, want) {
		t.Fatalf("%v is of another answer", l)
	}
	spoil(l[:1])
	if !alike(l[1:], want[1:]) {
		t.Fatalf("%v is of another session", l[1])
	}
	again(t, c, nil, want...)
	for range 6 {
		again(t, c, nil, want...)
	}
	for range 2 {
		_, lost := c.Again()
		_ = append(lost, 77)
		lost[0], lost[1] = 77, 77
	}
	again(t, c, []int{bob.Id, carol.Id})
}

func TestFramesHandedInAreNotKept(t *testing.T) { // R2
	c := made(t, me, 1, 1, bob)
	f, same := from(bob, me, batchOf(1, qry(2), qry(3))), from(bob, me, batchOf(1, qry(2), qry(3)))
	hears(t, c, f)
	if !reflect.DeepEqual(f, same) {
		t.Fatalf("Hear writes: %v", f)
	}
	spoil([]api.Frame{f})
	g := from(bob, me, batchOf(0, qry(1)))
	l, e := c.Hear(g)
	if !slices.Equal(l, said(bob, qry(1), qry(2), qry(3))) || e != api.OK {
		t.Fatalf("Hear: %v, %d", l, e)
	}
	for i := range l {
		l[i] = api.Said{From: 77}
	}
	if g.Parts[0].Batch.Objects[0] != qry(1) {
		t.Fatal("the answer is the list that was handed in")
	}
}

func TestCastsDoNotMeet(t *testing.T) { // R2
	a, b := made(t, me, 1, 9, bob), made(t, me, 1, 9)
	peers(t, b)
	up(t, b, bob, api.OK)
	up(t, b, carol, api.OK)
	push(t, a, api.Everyone, 1, qry(1))
	isIdle(t, b, true)
	hears(t, b, from(carol, me, batchOf(0, qry(2))), said(carol, qry(2))...)
	sends(t, a, from(me, bob, batchOf(0, qry(1))))
	sends(t, b, from(me, carol, ackOf(carol, 1)))
	down(t, b, bob.Id, api.OK)
	peers(t, a, bob)
	peers(t, b, carol)
}

func TestWorkersDoNotMeet(t *testing.T) { // R2
	var all sync.WaitGroup
	wrong := make([]int, 8)
	for k := range wrong {
		all.Go(func() {
			c, _ := cast.New(me, k+1, 2)
			c.Up(bob)
			c.Up(carol)
			for i := range 100 {
				n, e := c.Push(api.Everyone, opt(i+k))
				l := c.Frames()
				if n != 2 || e != api.OK || !alike(l, []api.Frame{from(me, bob, batchOf(i, opt(i+k))), from(me, carol, batchOf(i, opt(i+k)))}) {
					wrong[k]++
				}
				c.Hear(from(carol, me, ackOf(me, i+1)))
				c.Hear(from(bob, me, ackOf(me, i+1)))
				if !c.Idle() {
					wrong[k]++
				}
			}
		})
	}
	all.Wait()
	for k, n := range wrong {
		if n != 0 {
			t.Errorf("worker %d: %d answers of others", k, n)
		}
	}
}
