package frame_test

import (
	"bytes"
	"math"
	"reflect"
	"slices"
	"strings"
	"sync"
	"testing"

	"thalweg/api"
	"thalweg/frame"
	"thalweg/wire"
)

// sealed is a frame's bytes: these, with how many there are in all put in, and with the sum behind them.
func sealed(s string) string {
	b := []byte(s)
	n := len(b) + 2
	b[12], b[13] = byte(n>>8), byte(n)
	sum := wire.Sum(b)
	return string(append(b, byte(sum>>8), byte(sum)))
}

func beaconPart(epoch int, l ...api.Echo) api.Part {
	return api.Part{Kind: api.PartBeacon, Beacon: api.Beacon{Epoch: epoch, Echoes: l}}
}

func batchPart(number int, l ...api.Object) api.Part {
	return api.Part{Kind: api.PartBatch, Batch: api.Batch{Number: number, Objects: l}}
}

func acksPart(l ...api.Ack) api.Part { return api.Part{Kind: api.PartAcks, Acks: l} }

func packetPart(p api.Packet) api.Part { return api.Part{Kind: api.PartPacket, Packet: p} }

func qry(dest int) api.Object { return api.Object{Kind: api.Qry, Dest: dest} }

// dataPart is a part of a packet with n bytes of Data: 10 bytes more in a frame.
func dataPart(n int) api.Part { return packetPart(api.Packet{Data: strings.Repeat("x", n)}) }

// known are frames, and the bytes that they have.
func known() []struct {
	f api.Frame
	b string
} {
	return []struct {
		f api.Frame
		b string
	}{
		{api.Frame{From: 1, To: 255, Parts: []api.Part{batchPart(0, qry(5))}}, "T\x01\x01\xff\x00\x00\x00\x00\x00\x00\x00\x00\x00\x19\x01\x02\x00\x05\x00\x00\x01\x01\x05"},
		{api.Frame{From: 1, To: 2, Epoch: 258, Peer: 9, Parts: []api.Part{
			beaconPart(258, api.Echo{Id: 2, Epoch: 1}), batchPart(7, qry(5)), acksPart(api.Ack{Id: 2, Next: 3}), packetPart(api.Packet{Src: 1, Dst: 5, Ttl: 9, Data: "hi"}),
		}}, "T\x01\x01\x02\x00\x00\x01\x02\x00\x00\x00\x09\x00\x3f\x04\x01\x00\x0a\x00\x00\x01\x02\x01\x02\x00\x00\x00\x01\x02\x00\x05\x00\x07\x01\x01\x05\x03\x00\x0a\x01\x02\x00\x00\x00\x00\x00\x03\x00\x00\x04\x00\x09\x01\x05\x09\x00\x00\x00\x02hi"},
		{api.Frame{Parts: []api.Part{beaconPart(0)}}, "T\x01\x00\x00\x00\x00\x00\x00\x00\x00\x00\x00\x00\x19\x01\x01\x00\x05\x00\x00\x00\x00\x00"},
		{api.Frame{Parts: []api.Part{packetPart(api.Packet{})}}, "T\x01\x00\x00\x00\x00\x00\x00\x00\x00\x00\x00\x00\x1b\x01\x04\x00\x07\x00\x00\x00\x00\x00\x00\x00"},
		{api.Frame{From: 63, To: 63, Epoch: api.MaxWord, Peer: api.MaxWord, Parts: []api.Part{beaconPart(api.MaxWord)}}, "T\x01\x3f\x3f\xff\xff\xff\xff\xff\xff\xff\xff\x00\x19\x01\x01\x00\x05\xff\xff\xff\xff\x00"},
		{api.Frame{From: 63, To: 255, Epoch: 16909060, Parts: []api.Part{dataPart(256)}}, "T\x01\x3f\xff\x01\x02\x03\x04\x00\x00\x00\x00\x01\x1b\x01\x04\x01\x07\x00\x00\x00\x00\x00\x01\x00" + strings.Repeat("x", 256)},
		{api.Frame{From: 0, To: 63, Peer: 84281096, Parts: slices.Repeat([]api.Part{batchPart(65535, qry(63))}, 8)}, "T\x01\x00\x3f\x00\x00\x00\x00\x05\x06\x07\x08\x00\x51\x08" + strings.Repeat("\x02\x00\x05\xff\xff\x01\x01\x3f", 8)},
		{api.Frame{From: 2, To: 1, Parts: []api.Part{packetPart(api.Packet{Src: 3, Dst: 4, Ttl: 5, Number: 6, Data: "\x00"}), acksPart(api.Ack{Id: 1, Epoch: 2, Next: 3, Mask: 4}, api.Ack{Id: 63, Epoch: 5, Next: 6, Mask: 7}), acksPart(api.Ack{})}}, "T\x01\x02\x01\x00\x00\x00\x00\x00\x00\x00\x00\x00\x3f\x03\x04\x00\x08\x03\x04\x05\x00\x06\x00\x01\x00\x03\x00\x13\x02\x01\x00\x00\x00\x02\x00\x03\x00\x04\x3f\x00\x00\x00\x05\x00\x06\x00\x07\x03\x00\x0a\x01\x00\x00\x00\x00\x00\x00\x00\x00\x00"},
		{api.Frame{From: 5, To: 255, Parts: []api.Part{dataPart(256), dataPart(256), dataPart(256), dataPart(256), dataPart(256), dataPart(43)}}, "T\x01\x05\xff\x00\x00\x00\x00\x00\x00\x00\x00\x05\x78\x06" + strings.Repeat("\x04\x01\x07\x00\x00\x00\x00\x00\x01\x00"+strings.Repeat("x", 256), 5) + "\x04\x00\x32\x00\x00\x00\x00\x00\x00\x2b" + strings.Repeat("x", 43)},
	}
}

// some is a frame that is right, of parts of all kinds.
func some() api.Frame { return known()[1].f }

// with is some, but for what turn does.
func with(turn func(f *api.Frame)) api.Frame {
	f := some()
	turn(&f)
	return f
}

// wrongParts are parts that are not right: each of one thing alone.
func wrongParts() []api.Part {
	wrong := []api.Part{{}, {Kind: -1}, {Kind: 5}, {Kind: 256 + 1}, {Kind: math.MinInt}, {Kind: math.MaxInt},
		{Kind: api.PartBatch}, {Kind: api.PartAcks}, acksPart(), acksPart([]api.Ack{}...),
		beaconPart(-1), beaconPart(api.MaxWord + 1), beaconPart(0, api.Echo{Id: 64}), beaconPart(0, api.Echo{Id: 1}, api.Echo{Id: 1}),
		batchPart(65536, qry(5)), batchPart(-1, qry(5)), batchPart(0), batchPart(0, qry(64)), batchPart(0, slices.Repeat([]api.Object{qry(1)}, 33)...),
		acksPart(api.Ack{Id: 64}), acksPart(api.Ack{Mask: 65536}), acksPart(api.Ack{Id: 1}, api.Ack{}),
		packetPart(api.Packet{Src: 64}), packetPart(api.Packet{Ttl: 256}), dataPart(257),
	}
	for _, p := range some().Parts {
		q := p
		q.Kind = 0
		wrong = append(wrong, q)
		q.Kind = 5
		wrong = append(wrong, q)
	}
	return append(wrong, mixed()...)
}

// mixed are parts that are right but for something of another kind.
func mixed() []api.Part {
	others := []struct {
		kind int
		add  func(p *api.Part)
	}{
		{api.PartBeacon, func(p *api.Part) { p.Beacon.Epoch = 1 }},
		{api.PartBeacon, func(p *api.Part) { p.Beacon.Epoch = -1 }},
		{api.PartBeacon, func(p *api.Part) { p.Beacon.Echoes = []api.Echo{{}} }},
		{api.PartBatch, func(p *api.Part) { p.Batch.Number = 1 }},
		{api.PartBatch, func(p *api.Part) { p.Batch.Number = -1 }},
		{api.PartBatch, func(p *api.Part) { p.Batch.Objects = []api.Object{{}} }},
		{api.PartBatch, func(p *api.Part) { p.Batch.Objects = []api.Object{qry(5)} }},
		{api.PartAcks, func(p *api.Part) { p.Acks = []api.Ack{{}} }},
		{api.PartPacket, func(p *api.Part) { p.Packet.Src = 1 }},
		{api.PartPacket, func(p *api.Part) { p.Packet.Dst = 1 }},
		{api.PartPacket, func(p *api.Part) { p.Packet.Ttl = 1 }},
		{api.PartPacket, func(p *api.Part) { p.Packet.Number = 1 }},
		{api.PartPacket, func(p *api.Part) { p.Packet.Data = "x" }},
	}
	var l []api.Part
	for _, p := range some().Parts {
		for _, x := range others {
			q := p
			x.add(&q)
			if x.kind != p.Kind {
				l = append(l, q)
			}
		}
	}
	return l
}

// wrong are frames that are not right: each of one thing alone.
func wrong() []api.Frame {
	l := []api.Frame{{}, {Parts: []api.Part{}}, with(func(f *api.Frame) { f.Parts = nil })}
	for _, n := range []int{-1, -2, -255, -256, math.MinInt, 64, 65, 254, 255, 256, 257, 319, math.MaxInt} {
		l = append(l, with(func(f *api.Frame) { f.From = n }))
		if n != api.Everyone {
			l = append(l, with(func(f *api.Frame) { f.To, f.Peer = n, 0 }))
		}
	}
	for _, n := range []int{-1, -2, math.MinInt, api.MaxWord + 1, 2 * (api.MaxWord + 1), math.MaxInt} {
		l = append(l, with(func(f *api.Frame) { f.Epoch = n }), with(func(f *api.Frame) { f.Peer = n }), with(func(f *api.Frame) { f.To, f.Peer = api.Everyone, n }))
	}
	for _, n := range []int{1, 9, api.MaxWord} {
		l = append(l, with(func(f *api.Frame) { f.To, f.Peer = api.Everyone, n }))
	}
	for _, n := range []int{9, 10, 256 + 1, 256 + 8} {
		l = append(l, with(func(f *api.Frame) { f.Parts = slices.Repeat(f.Parts[1:2], n) }))
	}
	for _, n := range []int{44, 45, 255, 256} {
		l = append(l, with(func(f *api.Frame) { f.Parts = append(slices.Repeat([]api.Part{dataPart(256)}, 5), dataPart(n)) }))
	}
	l = append(l, with(func(f *api.Frame) { f.Parts = slices.Repeat([]api.Part{dataPart(256)}, 8) }))
	for _, p := range wrongParts() {
		l = append(l, with(func(f *api.Frame) { f.Parts = []api.Part{p} }))
		for at := range some().Parts {
			l = append(l, with(func(f *api.Frame) { f.Parts[at] = p }))
		}
		l = append(l, with(func(f *api.Frame) { f.Parts = append(f.Parts, p) }))
	}
	return l
}

// right are frames that are: those known, and such at the edges, and between.
func right() []api.Frame {
	var l []api.Frame
	for _, k := range known() {
		l = append(l, k.f)
	}
	for id := range api.MaxNodes {
		l = append(l, with(func(f *api.Frame) { f.From = id }), with(func(f *api.Frame) { f.To = id }), with(func(f *api.Frame) { f.From, f.To, f.Peer = id, api.Everyone, 0 }))
	}
	for _, n := range []int{0, 1, 255, 256, 65535, 65536, 1 << 24, api.MaxWord - 1, api.MaxWord} {
		l = append(l, with(func(f *api.Frame) { f.Epoch = n }), with(func(f *api.Frame) { f.Peer = n }))
		l = append(l, with(func(f *api.Frame) { f.Epoch, f.To, f.Peer = n, api.Everyone, 0 }))
	}
	for n := 1; n <= api.MaxParts; n++ {
		for _, p := range some().Parts {
			l = append(l, with(func(f *api.Frame) { f.Parts = slices.Repeat([]api.Part{p}, n) }))
		}
	}
	for n := range 257 {
		l = append(l, with(func(f *api.Frame) { f.Parts = []api.Part{dataPart(n)} }))
	}
	for n := range 44 {
		l = append(l, with(func(f *api.Frame) { f.Parts = append(slices.Repeat([]api.Part{dataPart(256)}, 5), dataPart(n)) }))
	}
	return append(l, full()...)
}

// full are frames with as much of one kind as that takes.
func full() []api.Frame {
	var echoes []api.Echo
	var acks []api.Ack
	var objects []api.Object
	for id := range api.MaxNodes {
		echoes = append(echoes, api.Echo{Id: id, Epoch: api.MaxWord - id})
		acks = append(acks, api.Ack{Id: id, Epoch: id, Next: 65535 - id, Mask: id})
	}
	for dest := range api.MaxObjects {
		objects = append(objects, qry(dest))
	}
	far := api.Height{Tau: api.MaxTau, Oid: 63, R: 1, Delta: -api.MaxDelta, Id: 63}
	return []api.Frame{
		with(func(f *api.Frame) { f.Parts = []api.Part{beaconPart(api.MaxWord, echoes...), acksPart(acks...)} }),
		with(func(f *api.Frame) { f.Parts = []api.Part{batchPart(65535, objects...)} }),
		with(func(f *api.Frame) {
			f.Parts = []api.Part{batchPart(1, api.Object{Kind: api.Upd, Dest: 9, Height: far}, api.Object{Kind: api.Clr, Dest: 8, Level: api.Level{Tau: 1, Oid: 2, R: 1}}), batchPart(2, api.Object{Kind: api.Opt, Dest: 7, Height: far, Number: 65535})}
		}),
	}
}

func TestCheckTakesWhatIsRight(t *testing.T) { // P9.1
	for _, f := range right() {
		if e := frame.Check(f); e != api.OK {
			t.Errorf("Check(%v): %d", f, e)
		}
	}
}

func TestWhatIsNotRightIsTurnedAway(t *testing.T) { // P9.1, R1
	for i, f := range wrong() {
		if e := frame.Check(f); e != api.ErrArg {
			t.Errorf("%d: Check(%v): %d, want ErrArg", i, f, e)
		}
		if b, e := frame.Bytes(f); len(b) != 0 || e != api.ErrArg {
			t.Errorf("%d: Bytes(%v): %x, %d, want none, ErrArg", i, f, b, e)
		}
		for _, id := range []int{0, 2, 3, 63, f.To, api.Everyone} {
			if frame.For(f, id) {
				t.Errorf("%d: For(%v, %d)", i, f, id)
			}
		}
	}
}

func TestAListWithoutElementsMayBeNilOrNot(t *testing.T) { // P9.1, R2
	for i := range some().Parts {
		f := with(func(f *api.Frame) {
			p := &f.Parts[i]
			if p.Kind != api.PartBeacon {
				p.Beacon.Echoes = []api.Echo{}
			}
			if p.Kind != api.PartBatch {
				p.Batch.Objects = []api.Object{}
			}
			if p.Kind != api.PartAcks {
				p.Acks = []api.Ack{}
			}
		})
		if b, e := frame.Bytes(f); string(b) != sealed(known()[1].b) || e != api.OK {
			t.Errorf("part %d: %x, %d", i, b, e)
		}
	}
}

func TestBytesOfFrames(t *testing.T) { // P9.1
	for _, k := range known() {
		sum := wire.Sum([]byte(k.b))
		want := k.b + string([]byte{byte(sum >> 8), byte(sum)})
		if b, e := frame.Bytes(k.f); string(b) != want || e != api.OK {
			t.Errorf("Bytes(%v): %x, %d, want %x", k.f, b, e, want)
		}
	}
}

func TestHowManyBytesThereAre(t *testing.T) { // P9.1
	for _, f := range right() {
		b, e := frame.Bytes(f)
		if told := int(b[12])<<8 + int(b[13]); told != len(b) || told > api.MaxFrame || e != api.OK {
			t.Errorf("Bytes(%v): tells %d, has %d, %d", f, told, len(b), e)
		}
	}
	most := known()[8].f
	if b, e := frame.Bytes(most); len(b) != api.MaxFrame || e != api.OK {
		t.Errorf("%d bytes, %d, want %d", len(b), e, api.MaxFrame)
	}
}

func TestForWhomAFrameIs(t *testing.T) { // P9.1
	for from := range api.MaxNodes {
		for to := range api.MaxNodes {
			f := with(func(f *api.Frame) { f.From, f.To = from, to })
			for _, id := range []int{from, to, (to + 1) % 64, -1, 64, 255, math.MinInt, math.MaxInt} {
				if want := id == to && id != from; frame.For(f, id) != want {
					t.Errorf("from %d to %d, for %d: %v", from, to, id, !want)
				}
			}
		}
		f := with(func(f *api.Frame) { f.From, f.To, f.Peer = from, api.Everyone, 0 })
		for id := range api.MaxNodes {
			if want := id != from; frame.For(f, id) != want {
				t.Errorf("from %d to all, for %d: %v", from, id, !want)
			}
		}
	}
}

func TestParseAnswersTheFrame(t *testing.T) { // P9.2
	for _, k := range known() {
		if f, e := frame.Parse([]byte(sealed(k.b))); !reflect.DeepEqual(f, k.f) || e != api.OK {
			t.Errorf("Parse(%x): %v, %d, want %v", k.b, f, e, k.f)
		}
	}
}

// refused tells whether Parse answers this error, and noughts.
func refused(t *testing.T, b string, want api.Errno) {
	t.Helper()
	if f, e := frame.Parse([]byte(b)); !reflect.DeepEqual(f, api.Frame{}) || e != want {
		t.Errorf("Parse(%x): %v, %d, want noughts, %d", b, f, e, want)
	}
}

func TestFewerBytesThanAnyFrameHas(t *testing.T) { // P9.2, R1
	if f, e := frame.Parse(nil); !reflect.DeepEqual(f, api.Frame{}) || e != api.ErrMore {
		t.Errorf("Parse(nil): %v, %d", f, e)
	}
	for n := range 17 {
		refused(t, strings.Repeat("\x00", n), api.ErrMore)
		refused(t, strings.Repeat("T", n), api.ErrMore)
		refused(t, known()[0].b[:n], api.ErrMore)
	}
}

func TestWithWhatAFrameBegins(t *testing.T) { // P9.2
	for c := range 256 {
		if c != 'T' {
			refused(t, sealed(string([]byte{byte(c)})+known()[1].b[1:]), api.ErrForm)
			refused(t, string([]byte{byte(c)})+known()[1].b[1:17], api.ErrForm) // and bytes that are lacking
		}
		if c != 1 {
			refused(t, sealed("T"+string([]byte{byte(c)})+known()[1].b[2:]), api.ErrForm)
			refused(t, "T"+string([]byte{byte(c)})+known()[1].b[2:17], api.ErrForm)
		}
	}
	refused(t, strings.Repeat("\x00", 17), api.ErrForm)
}

func TestFewerOrMoreBytesThanAFrameTells(t *testing.T) { // P9.2, P9.3
	for _, k := range known() {
		b := sealed(k.b)
		for n := range b {
			refused(t, b[:n], api.ErrMore)
		}
		for n := 1; n < 300; n++ {
			refused(t, b+strings.Repeat("\x00", n), api.ErrForm)
		}
		refused(t, b+b, api.ErrForm)
	}
}

func TestWhatAFrameTellsOfItsLength(t *testing.T) { // P9.2
	b := []byte(sealed(known()[1].b))
	for told := range 65536 {
		if told == len(b) {
			continue
		}
		b[12], b[13] = byte(told>>8), byte(told)
		want := api.ErrForm
		if told > len(b) {
			want = api.ErrMore
		}
		if _, e := frame.Parse(b); e != want {
			t.Errorf("%d bytes that tell %d: %d, want %d", len(b), told, e, want)
		}
	}
	for told := range 17 {
		c := []byte(known()[1].b[:17])
		c[12], c[13] = 0, byte(told)
		refused(t, string(c), api.ErrForm)
	}
	refused(t, sealed(known()[1].b[:14]+"\x00"), api.ErrForm) // 17 bytes, and no part
}

func TestASumThatDoesNotHold(t *testing.T) { // P9.2
	for _, k := range known() {
		b := sealed(k.b)
		for i := 1; i <= 2; i++ {
			for c := range 256 {
				if x := []byte(b); x[len(b)-i] != byte(c) {
					x[len(b)-i] = byte(c)
					refused(t, string(x), api.ErrSum)
				}
			}
		}
	}
	// What is wrong of it beside its sum is not told.
	refused(t, known()[1].b[:2]+"\x40"+known()[1].b[3:]+"\x00\x00", api.ErrSum)
	c := []byte(sealed(known()[1].b[:14] + "\x00"))
	c[16]++
	refused(t, string(c), api.ErrSum)
}

func TestHeadsThatAreNotRight(t *testing.T) { // P9.2
	for c := range 256 {
		one := string([]byte{byte(c)})
		if c > 63 {
			refused(t, sealed("T\x01"+one+known()[1].b[3:]), api.ErrForm)
			refused(t, sealed("T\x01\x01"+one+known()[1].b[4:]), api.ErrForm) // 255: with a Peer
			refused(t, sealed("T\x01"+one+known()[0].b[3:]), api.ErrForm)
		}
		if c > 63 && c < 255 {
			refused(t, sealed("T\x01\x01"+one+known()[0].b[4:]), api.ErrForm)
		}
	}
	for i := 8; i < 12; i++ {
		b := []byte(known()[0].b)
		b[i] = 1
		refused(t, sealed(string(b)), api.ErrForm)
	}
}

func TestHowManyPartsAreTold(t *testing.T) { // P9.2
	part := "\x02\x00\x05\x00\x00\x01\x01\x05"
	head := known()[0].b[:14]
	for told := range 256 {
		for there := range 12 {
			b := sealed(head + string([]byte{byte(told)}) + strings.Repeat(part, there))
			if told != there || told == 0 || told > 8 {
				refused(t, b, api.ErrForm)
				continue
			}
			if f, e := frame.Parse([]byte(b)); len(f.Parts) != told || e != api.OK {
				t.Errorf("%d parts: %v, %d", told, f, e)
			}
		}
	}
	refused(t, sealed(head+"\xff"+strings.Repeat(part, 255)), api.ErrForm)
}

func TestPartsThatAreNone(t *testing.T) { // P9.2
	head := known()[0].b[:14]
	for _, part := range []string{
		"", "\x02", "\x02\x00", "\x02\x00\x05", "\x02\x00\x05\x00\x00\x01\x01", // lacking
		"\x02\x00\x05\x00\x00\x01\x01\x05\x00", "\x02\x00\x05\x00\x00\x01\x01\x05\x02\x00\x05\x00\x00\x01\x01\x05", // bytes behind it
		"\x02\x00\x06\x00\x00\x01\x01\x05", "\x02\x01\x05\x00\x00\x01\x01\x05", "\x02\xff\xff\x00\x00\x01\x01\x05", // fewer than are told
		"\x02\x00\x06\x00\x00\x01\x01\x05\x00", "\x02\x00\x0a\x00\x00\x01\x01\x05\x00\x00\x01\x01\x05", // it does not take all
		"\x02\x00\x04\x00\x00\x01\x01\x05", "\x02\x00\x00\x00\x00\x01\x01\x05", "\x02\x00\x00", // it would take more
		"\x00\x00\x05\x00\x00\x01\x01\x05", "\x05\x00\x05\x00\x00\x01\x01\x05", "\xff\x00\x05\x00\x00\x01\x01\x05", "\x00\x00\x00", "\x05\x00\x00", // no kind
		"\x01\x00\x05\x00\x00\x01\x01\x05", "\x03\x00\x05\x00\x00\x01\x01\x05", "\x04\x00\x05\x00\x00\x01\x01\x05", // of another kind
		"\x02\x00\x03\x00\x00\x00", "\x02\x00\x05\x00\x00\x01\x01\x40", "\x02\x00\x05\x00\x00\x01\x09\x05", // no batch
		"\x01\x00\x0a\x00\x00\x00\x00\x01\x40\x00\x00\x00\x00", "\x01\x00\x04\x00\x00\x00\x00", // no beacon
		"\x03\x00\x01\x00", "\x03\x00\x0a\x01\x40\x00\x00\x00\x00\x00\x00\x00\x00", // no acks
		"\x04\x00\x07\x40\x00\x00\x00\x00\x00\x00", "\x04\x01\x08\x00\x00\x00\x00\x00\x01\x01" + strings.Repeat("x", 257), // no packet
	} {
		refused(t, sealed(head+"\x01"+part), api.ErrForm)
		refused(t, sealed(head+"\x02\x01\x00\x05\x00\x00\x00\x00\x00"+part), api.ErrForm)
		refused(t, sealed(head+"\x02"+part+"\x01\x00\x05\x00\x00\x00\x00\x00"), api.ErrForm)
	}
}

func TestFramesOfTooManyBytes(t *testing.T) { // P9.2
	full := strings.Repeat("\x04\x01\x07\x00\x00\x00\x00\x00\x01\x00"+strings.Repeat("x", 256), 5)
	for n := range 257 {
		b := sealed("T\x01\x05\xff\x00\x00\x00\x00\x00\x00\x00\x00\x00\x00\x06" + full + "\x04" + string([]byte{byte((n + 7) >> 8), byte(n + 7)}) + "\x00\x00\x00\x00\x00" + string([]byte{byte(n >> 8), byte(n)}) + strings.Repeat("x", n))
		if len(b) > api.MaxFrame {
			refused(t, b, api.ErrForm)
			continue
		}
		if f, e := frame.Parse([]byte(b)); len(f.Parts) != 6 || e != api.OK {
			t.Errorf("%d bytes: %v, %d", len(b), f, e)
		}
	}
}

// checkParsed tells whether what is parsed is right, and has these bytes.
func checkParsed(t *testing.T, b []byte) {
	t.Helper()
	f, e := frame.Parse(b)
	if e != api.OK {
		if !reflect.DeepEqual(f, api.Frame{}) {
			t.Errorf("Parse(%x): %v, %d", b, f, e)
		}
		return
	}
	back, e := frame.Bytes(f)
	if e != api.OK || !bytes.Equal(back, b) || frame.Check(f) != api.OK {
		t.Errorf("Parse(%x): %v, whose bytes are %x, %d", b, f, back, e)
	}
}

func TestWhatIsParsedHasTheseBytes(t *testing.T) { // P9.3, R1
	for _, k := range known() {
		for i := range min(len(k.b), 70) {
			for c := range 256 {
				b := []byte(k.b)
				b[i] = byte(c)
				checkParsed(t, []byte(sealed(string(b))))
			}
		}
	}
}

func TestWhatHasBytesIsParsedAsItself(t *testing.T) { // P9.3
	for _, f := range right() {
		b, _ := frame.Bytes(f)
		if g, e := frame.Parse(b); !reflect.DeepEqual(g, f) || e != api.OK {
			t.Errorf("Parse of %v: %v, %d", f, g, e)
		}
	}
	for _, f := range append(full(), some()) {
		b, _ := frame.Bytes(f)
		for n := range b {
			refused(t, string(b[:n]), api.ErrMore)
		}
		for n := 1; n < 20; n++ {
			refused(t, string(b)+strings.Repeat("\x01", n), api.ErrForm)
		}
	}
}

func TestWithOneByteThatIsAnotherItIsRefused(t *testing.T) { // P9.3
	for _, k := range known() {
		b := []byte(sealed(k.b))
		for i, old := range b {
			for c := range 256 {
				if far := c - int(old); far == 0 || far == 251 || far == -251 {
					continue
				}
				b[i] = byte(c)
				if f, e := frame.Parse(b); e == api.OK || !reflect.DeepEqual(f, api.Frame{}) {
					t.Errorf("%x with %d at %d: %v, %d", k.b, c, i, f, e)
				}
			}
			b[i] = old
		}
	}
}

func TestWhatIsHandedInStaysAsItIs(t *testing.T) { // R2
	for _, k := range known() {
		b := []byte(sealed(k.b) + "\x01\x02\x03\x04")
		old := bytes.Clone(b)
		frame.Parse(b[:len(b)-4])
		frame.Parse(b)
		if !bytes.Equal(b, old) {
			t.Errorf("Parse wrote into what was handed in: %x, was %x", b, old)
		}
	}
	handed := right()
	for _, f := range handed {
		frame.Check(f)
		frame.Bytes(f)
		frame.For(f, 2)
	}
	if !reflect.DeepEqual(handed, right()) {
		t.Error("written into what was handed in")
	}
}

func TestAnswersShareNoMemory(t *testing.T) { // R2
	for _, k := range known() {
		b, _ := frame.Bytes(k.f)
		f, _ := frame.Parse(b)
		for i := range b {
			b[i] = 0xaa
		}
		if again, _ := frame.Bytes(k.f); string(again) != sealed(k.b) || !reflect.DeepEqual(f, k.f) {
			t.Errorf("Bytes(%v) again: %x; parsed %v", k.f, again, f)
		}
	}
}

func TestCallsAtOneTimeDoNotMeet(t *testing.T) { // R2
	var workers sync.WaitGroup
	turned := make([]int, 8)
	for k := range turned {
		workers.Go(func() {
			for i := range 200 {
				f := with(func(f *api.Frame) { f.From, f.To, f.Epoch, f.Parts[1].Batch.Number = 8+k, k, i, 100*k+i })
				b, _ := frame.Bytes(f)
				if g, e := frame.Parse(b); !reflect.DeepEqual(g, f) || e != api.OK || !frame.For(g, k) {
					turned[k]++
				}
			}
		})
	}
	workers.Wait()
	for k, n := range turned {
		if n != 0 {
			t.Errorf("worker %d: %d answers of others", k, n)
		}
	}
}
