package packet_test

import (
	"bytes"
	"math"
	"strings"
	"sync"
	"testing"

	"thalweg/api"
	"thalweg/packet"
)

// head is how many bytes stand ahead of a packet's Data.
const head = 7

// run answers n bytes, of which none is like the one beside it.
func run(n int) string {
	b := make([]byte, n)
	for i := range b {
		b[i] = byte(255 - i)
	}
	return string(b)
}

// known are packets, and the bytes that they have.
func known() []struct {
	p api.Packet
	b string
} {
	return []struct {
		p api.Packet
		b string
	}{
		{api.Packet{Src: 1, Dst: 2, Ttl: 9, Number: 258, Data: "hi"}, "\x01\x02\x09\x01\x02\x00\x02hi"},
		{api.Packet{}, "\x00\x00\x00\x00\x00\x00\x00"},
		{api.Packet{Src: 63, Dst: 63, Ttl: 255, Number: 65535}, "\x3f\x3f\xff\xff\xff\x00\x00"},
		{api.Packet{Src: 63, Data: "a"}, "\x3f\x00\x00\x00\x00\x00\x01a"},
		{api.Packet{Dst: 63, Data: "\x00"}, "\x00\x3f\x00\x00\x00\x00\x01\x00"},
		{api.Packet{Ttl: 255, Data: "\xff\xfe"}, "\x00\x00\xff\x00\x00\x00\x02\xff\xfe"},
		{api.Packet{Number: 1, Data: "\n %"}, "\x00\x00\x00\x00\x01\x00\x03\n %"},
		{api.Packet{Number: 255}, "\x00\x00\x00\x00\xff\x00\x00"},
		{api.Packet{Number: 256}, "\x00\x00\x00\x01\x00\x00\x00"},
		{api.Packet{Src: 5, Dst: 5, Ttl: 1, Number: 65280, Data: "\x05\x05\x01\xff\x00\x00\x00"}, "\x05\x05\x01\xff\x00\x00\x07\x05\x05\x01\xff\x00\x00\x00"},
		{api.Packet{Src: 7, Dst: 8, Ttl: 9, Number: 10, Data: run(255)}, "\x07\x08\x09\x00\x0a\x00\xff" + run(255)},
		{api.Packet{Src: 8, Dst: 7, Ttl: 64, Number: 0x0a0b, Data: run(256)}, "\x08\x07\x40\x0a\x0b\x01\x00" + run(256)},
		{api.Packet{Src: 62, Dst: 1, Ttl: 254, Number: 65534, Data: strings.Repeat("\x00", 256)}, "\x3e\x01\xfe\xff\xfe\x01\x00" + strings.Repeat("\x00", 256)},
	}
}

// wrong are packets that are not right: each of one thing alone.
func wrong() []api.Packet {
	var l []api.Packet
	for _, n := range []int{-1, -2, -64, -192, math.MinInt, 64, 65, 255, 256, 257, math.MaxInt} {
		l = append(l, api.Packet{Src: n, Dst: 2, Ttl: 9, Number: 258, Data: "hi"}, api.Packet{Src: 1, Dst: n, Ttl: 9, Number: 258, Data: "hi"})
		l = append(l, api.Packet{Src: n}, api.Packet{Dst: n})
	}
	for _, n := range []int{-1, -2, -255, -256, math.MinInt, 256, 257, 511, 65536, math.MaxInt} {
		l = append(l, api.Packet{Src: 1, Dst: 2, Ttl: n, Number: 258, Data: "hi"}, api.Packet{Ttl: n})
	}
	for _, n := range []int{-1, -2, -65278, -65536, math.MinInt, 65536, 65537, 65794, 1 << 20, math.MaxInt} {
		l = append(l, api.Packet{Src: 1, Dst: 2, Ttl: 9, Number: n, Data: "hi"}, api.Packet{Number: n})
	}
	for _, n := range []int{257, 258, 512, 65535, 65536, 65538, 1 << 20} {
		l = append(l, api.Packet{Src: 1, Dst: 2, Ttl: 9, Number: 258, Data: strings.Repeat("x", n)})
	}
	return l
}

// right are packets that are: those known, and of each number the ones at its edges, and between.
func right() []api.Packet {
	var l []api.Packet
	for _, k := range known() {
		l = append(l, k.p)
	}
	for n := range 65536 {
		p := api.Packet{Src: n % 64, Dst: n / 64 % 64, Ttl: n * 7 % 256, Number: n}
		p.Data = run(257)[:(n*11)%257]
		if n%61 == 0 || n < 257 || n > 65278 {
			l = append(l, p)
		}
	}
	return l
}

func TestCheckTakesWhatIsRight(t *testing.T) { // P8.1
	for _, p := range right() {
		if e := packet.Check(p); e != api.OK {
			t.Errorf("Check(%v): %d", p, e)
		}
	}
	for id := range api.MaxNodes {
		for _, p := range []api.Packet{{Src: id}, {Dst: id}, {Src: id, Dst: id}} {
			if e := packet.Check(p); e != api.OK {
				t.Errorf("Check(%v): %d", p, e)
			}
		}
	}
	for n := range 256 {
		if e := packet.Check(api.Packet{Ttl: n}); e != api.OK {
			t.Errorf("Check of Ttl %d: %d", n, e)
		}
	}
	for n := range 65536 {
		if e := packet.Check(api.Packet{Number: n}); e != api.OK {
			t.Errorf("Check of Number %d: %d", n, e)
		}
	}
	for n := range 257 {
		if e := packet.Check(api.Packet{Data: run(n)}); e != api.OK {
			t.Errorf("Check of %d bytes: %d", n, e)
		}
	}
}

func TestWhatIsNotRightIsTurnedAway(t *testing.T) { // P8.1, P8.2, R1
	for _, p := range wrong() {
		if e := packet.Check(p); e != api.ErrArg {
			t.Errorf("Check(%v): %d, want ErrArg", p, e)
		}
		if b, e := packet.Bytes(p); len(b) != 0 || e != api.ErrArg {
			t.Errorf("Bytes(%v): %x, %d, want none, ErrArg", p, b, e)
		}
		if q, e := packet.Hop(p); q != (api.Packet{}) || e != api.ErrArg {
			t.Errorf("Hop(%v): %v, %d, want noughts, ErrArg", p, q, e)
		}
	}
}

func TestDataIsCountedInBytes(t *testing.T) { // P8.1
	wide := "\u00e4" // two bytes
	if e := packet.Check(api.Packet{Data: strings.Repeat(wide, 128)}); e != api.OK {
		t.Errorf("128 runes of 256 bytes: %d", e)
	}
	if e := packet.Check(api.Packet{Data: strings.Repeat(wide, 128) + "x"}); e != api.ErrArg {
		t.Errorf("129 runes of 257 bytes: %d", e)
	}
	if b, _ := packet.Bytes(api.Packet{Data: wide}); string(b) != "\x00\x00\x00\x00\x00\x00\x02\xc3\xa4" {
		t.Errorf("one rune of two bytes: %x", b)
	}
}

func TestBytesOfPackets(t *testing.T) { // P8.1
	for _, k := range known() {
		if b, e := packet.Bytes(k.p); string(b) != k.b || e != api.OK {
			t.Errorf("Bytes(%v): %x, %d, want %x", k.p, b, e, k.b)
		}
	}
}

func TestParseAnswersThePacketAndThePlaceBehind(t *testing.T) { // P8.1
	for _, k := range known() {
		if p, at, e := packet.Parse([]byte(k.b), 0); p != k.p || at != len(k.b) || e != api.OK {
			t.Errorf("Parse(%x): %v, %d, %d, want %v, %d", k.b, p, at, e, k.p, len(k.b))
		}
	}
}

// refused tells whether Parse answers this error, and noughts.
func refused(t *testing.T, b string, at int, want api.Errno) {
	t.Helper()
	if p, behind, e := packet.Parse([]byte(b), at); p != (api.Packet{}) || behind != 0 || e != want {
		t.Errorf("Parse(%x, %d): %v, %d, %d, want noughts, %d", b, at, p, behind, e, want)
	}
}

func TestParseOfPlacesThatAreNone(t *testing.T) { // P8.1, R1
	for _, at := range []int{-1, -7, 10, 11, math.MinInt, math.MaxInt, math.MaxInt - 7} {
		refused(t, known()[0].b, at, api.ErrArg)
	}
	refused(t, "", 1, api.ErrArg)
	refused(t, "", -1, api.ErrArg)
	if p, behind, e := packet.Parse(nil, 1); p != (api.Packet{}) || behind != 0 || e != api.ErrArg {
		t.Errorf("Parse(nil, 1): %v, %d, %d", p, behind, e)
	}
}

func TestParseOfBytesThatAreLacking(t *testing.T) { // P8.1, R1
	if p, behind, e := packet.Parse(nil, 0); p != (api.Packet{}) || behind != 0 || e != api.ErrMore {
		t.Errorf("Parse(nil, 0): %v, %d, %d", p, behind, e)
	}
	refused(t, known()[0].b, 9, api.ErrMore)
	for _, k := range known() {
		for n := range k.b {
			refused(t, k.b[:n], 0, api.ErrMore)
			refused(t, "\x07\x07"+k.b[:n], 2, api.ErrMore)
			roomy := []byte(k.b)
			if p, behind, e := packet.Parse(roomy[:n], 0); p != (api.Packet{}) || behind != 0 || e != api.ErrMore {
				t.Errorf("Parse of %d bytes of %x: %v, %d, %d", n, k.b, p, behind, e)
			}
		}
	}
}

func TestParseReadsAsManyBytesAsAreTold(t *testing.T) { // P8.1
	for n := range 257 {
		b := "\x01\x02\x03\x04\x05" + string([]byte{byte(n >> 8), byte(n)}) + run(300)
		want := api.Packet{Src: 1, Dst: 2, Ttl: 3, Number: 0x0405, Data: run(300)[:n]}
		if p, at, e := packet.Parse([]byte(b), 0); p != want || at != head+n || e != api.OK {
			t.Errorf("%d bytes of Data: %v, %d, %d", n, p, at, e)
		}
		if p, at, e := packet.Parse([]byte(b[:head+n]), 0); p != want || at != head+n || e != api.OK {
			t.Errorf("%d bytes of Data, and none behind: %v, %d, %d", n, p, at, e)
		}
		if n > 0 {
			refused(t, b[:head+n-1], 0, api.ErrMore)
		}
	}
}

func TestTooLongDataIsToldAheadOfWhatIsLacking(t *testing.T) { // P8.1
	for n := 257; n < 65536; n += 1 + n/32 {
		lead := "\x01\x02\x09\x01\x02" + string([]byte{byte(n >> 8), byte(n)})
		for _, there := range []int{0, 1, 255, 256, 257, n - 1, n, n + 1} {
			refused(t, lead+strings.Repeat("x", there), 0, api.ErrForm)
		}
		refused(t, "\x3f"+lead, 1, api.ErrForm)
		// Of how long it is nothing is known till both bytes of that are there.
		refused(t, lead[:head-1], 0, api.ErrMore)
	}
	refused(t, "\x01\x02\x09\x01\x02\xff\xff", 0, api.ErrForm)
	refused(t, "\x40\x40\x09\x01\x02\x01\x01", 0, api.ErrForm)
}

func TestWhatIsLackingIsToldAheadOfNodesThatAreNone(t *testing.T) { // P8.1
	for _, ids := range []string{"\x40\x02", "\x41\x02", "\x80\x02", "\xff\x02", "\x01\x40", "\x01\x7f", "\x01\xff", "\x40\x40", "\xff\xff"} {
		for _, data := range []string{"", "h", "hi", run(256)} {
			b := ids + "\x09\x01\x02" + string([]byte{byte(len(data) >> 8), byte(len(data))}) + data
			for _, rest := range []string{"", "\x00", "\xff" + run(300)} {
				refused(t, b+rest, 0, api.ErrForm)
				refused(t, "\x01"+b+rest, 1, api.ErrForm)
			}
			for n := range b {
				refused(t, b[:n], 0, api.ErrMore)
			}
		}
	}
}

func TestParseDoesNotReadBehindThePacket(t *testing.T) { // P8.1
	for _, k := range known() {
		for _, rest := range []string{"\x00", "\x40", "hi", "\xff\xff\xff\xff\xff\xff\xff\xff"} {
			if p, at, e := packet.Parse([]byte(k.b+rest), 0); p != k.p || at != len(k.b) || e != api.OK {
				t.Errorf("Parse(%x): %v, %d, %d", k.b+rest, p, at, e)
			}
		}
	}
}

func TestHopTakesOneOfTtl(t *testing.T) { // P8.2
	for ttl := 1; ttl <= 255; ttl++ {
		p := api.Packet{Src: 1, Dst: 63, Ttl: ttl, Number: 65535, Data: "hi"}
		want := p
		want.Ttl = ttl - 1
		if q, e := packet.Hop(p); q != want || e != api.OK {
			t.Errorf("Hop(%v): %v, %d, want %v", p, q, e, want)
		}
	}
	for _, p := range right() {
		if p.Ttl == 0 {
			continue
		}
		want := api.Packet{Src: p.Src, Dst: p.Dst, Ttl: p.Ttl - 1, Number: p.Number, Data: p.Data}
		if q, e := packet.Hop(p); q != want || e != api.OK {
			t.Errorf("Hop(%v): %v, %d, want %v", p, q, e, want)
		}
	}
}

func TestHopOfNoTtl(t *testing.T) { // P8.2, R1
	for _, p := range right() {
		p.Ttl = 0
		if q, e := packet.Hop(p); q != (api.Packet{}) || e != api.ErrNone {
			t.Errorf("Hop(%v): %v, %d, want noughts, ErrNone", p, q, e)
		}
	}
}

func TestThatAPacketIsNotRightIsToldAheadOfItsTtl(t *testing.T) { // P8.2
	for _, p := range wrong() {
		if p.Ttl == 9 {
			p.Ttl = 0
		}
		if q, e := packet.Hop(p); q != (api.Packet{}) || e != api.ErrArg {
			t.Errorf("Hop(%v): %v, %d, want noughts, ErrArg", p, q, e)
		}
	}
}

func TestAPacketHasAsManyHopsAsTtlSays(t *testing.T) { // P8.3
	for ttl := range 256 {
		first := api.Packet{Src: 5, Dst: 6, Ttl: ttl, Number: 7, Data: run(256)}
		p, hops := first, 0
		for q, e := packet.Hop(p); e == api.OK; q, e = packet.Hop(p) {
			p = q
			hops++
		}
		if p.Ttl != 0 || hops != ttl {
			t.Errorf("Ttl %d: %d hops, to Ttl %d", ttl, hops, p.Ttl)
		}
		p.Ttl = ttl
		if p != first {
			t.Errorf("Ttl %d: %v, was %v", ttl, p, first)
		}
	}
}

func TestHopTurnsOneByteAlone(t *testing.T) { // P8.3
	for _, p := range right() {
		if p.Ttl == 0 {
			continue
		}
		b, _ := packet.Bytes(p)
		q, _ := packet.Hop(p)
		c, e := packet.Bytes(q)
		b[2]--
		if !bytes.Equal(b, c) || e != api.OK {
			t.Errorf("Hop(%v): %x, %d, want %x", p, c, e, b)
		}
	}
}

func TestWhatHasBytesIsParsedAsItself(t *testing.T) { // P8.3
	for _, k := range known() {
		for lead := range 4 {
			b := strings.Repeat("\x01", lead) + k.b + "\xff\x01"
			if p, at, e := packet.Parse([]byte(b), lead); p != k.p || at != lead+len(k.b) || e != api.OK {
				t.Errorf("Parse of %v behind %d: %v, %d, %d", k.p, lead, p, at, e)
			}
		}
	}
	var b []byte
	for _, p := range right() {
		one, e := packet.Bytes(p)
		if e != api.OK || len(one) != head+len(p.Data) {
			t.Fatalf("Bytes(%v): %x, %d", p, one, e)
		}
		b = append(b, one...)
	}
	at := 0
	for _, want := range right() {
		p, behind, e := packet.Parse(b, at)
		if p != want || e != api.OK {
			t.Fatalf("Parse at %d: %v, %d, want %v", at, p, e, want)
		}
		at = behind
	}
	if at != len(b) {
		t.Errorf("%d bytes of %d", at, len(b))
	}
}

// checkParsed tells whether what is parsed is right, and has the bytes that were read.
func checkParsed(t *testing.T, b []byte) {
	t.Helper()
	p, at, e := packet.Parse(b, 0)
	if e != api.OK {
		if p != (api.Packet{}) || at != 0 || e != api.ErrForm && e != api.ErrMore {
			t.Errorf("Parse(%x): %v, %d, %d", b, p, at, e)
		}
		return
	}
	back, e := packet.Bytes(p)
	if e != api.OK || !bytes.Equal(back, b[:at]) {
		t.Errorf("Parse(%x): %v, %d, whose bytes are %x, %d", b, p, at, back, e)
	}
}

func TestWhatIsParsedHasTheBytesThatWereRead(t *testing.T) { // P8.1, P8.3, R1
	for _, k := range known() {
		for i := range min(len(k.b), 10) {
			for c := range 256 {
				b := []byte(k.b)
				b[i] = byte(c)
				checkParsed(t, b)
				checkParsed(t, append(b, run(300)...))
			}
		}
	}
}

func TestWhatIsHandedInStaysAsItIs(t *testing.T) { // R2
	for _, k := range known() {
		b := []byte(k.b + "\x01\x02\x03\x04")
		old := bytes.Clone(b)
		packet.Parse(b[:len(k.b)], 0)
		packet.Parse(b[:len(k.b)-1], 0)
		packet.Parse(b, 1)
		if !bytes.Equal(b, old) {
			t.Errorf("Parse wrote into what was handed in: %x, was %x", b, old)
		}
	}
}

func TestAnswersShareNoMemory(t *testing.T) { // R2
	for _, k := range known() {
		b, _ := packet.Bytes(k.p)
		p, _, _ := packet.Parse(b, 0)
		for i := range b {
			b[i] = 0xaa
		}
		if again, _ := packet.Bytes(k.p); string(again) != k.b || p != k.p {
			t.Errorf("Bytes(%v) again: %x, want %x; parsed %v", k.p, again, k.b, p)
		}
	}
}

func TestCallsAtOneTimeDoNotMeet(t *testing.T) { // R2
	var workers sync.WaitGroup
	turned := make([]int, 8)
	for k := range turned {
		workers.Go(func() {
			for i := range 300 {
				p := api.Packet{Src: k, Dst: 63 - k, Ttl: 1 + i%255, Number: 100*k + i, Data: run(256)[:i%257]}
				b, _ := packet.Bytes(p)
				if back, at, e := packet.Parse(b, 0); back != p || at != len(b) || e != api.OK {
					turned[k]++
				}
				if q, e := packet.Hop(p); q.Ttl != i%255 || q.Number != p.Number || e != api.OK {
					turned[k]++
				}
			}
		})
	}
	workers.Wait()
	for k, n := range turned {
		if n != 0 {
			t.Errorf("worker %d: %d answers of others", k, n)
		}
	}
}
