package beacon_test

import (
	"bytes"
	"math"
	"slices"
	"strings"
	"sync"
	"testing"

	"thalweg/api"
	"thalweg/beacon"
)

// all answers a beacon that hears each node there is, of epochs that are like none near them.
func all() api.Beacon {
	x := api.Beacon{Epoch: api.MaxWord}
	for id := range api.MaxNodes {
		x.Echoes = append(x.Echoes, api.Echo{Id: id, Epoch: 1<<26*id + 77*id})
	}
	return x
}

// allBytes answers the bytes of all.
func allBytes() string {
	b := []byte{0xff, 0xff, 0xff, 0xff, 64}
	for _, o := range all().Echoes {
		b = append(b, byte(o.Id), byte(o.Epoch>>24), byte(o.Epoch>>16), byte(o.Epoch>>8), byte(o.Epoch))
	}
	return string(b)
}

// known are beacons, and the bytes that they have.
func known() []struct {
	x api.Beacon
	b string
} {
	return []struct {
		x api.Beacon
		b string
	}{
		{api.Beacon{Epoch: 1, Echoes: []api.Echo{{Id: 5, Epoch: 2}}}, "\x00\x00\x00\x01\x01\x05\x00\x00\x00\x02"},
		{api.Beacon{}, "\x00\x00\x00\x00\x00"},
		{api.Beacon{Epoch: 4294967295}, "\xff\xff\xff\xff\x00"},
		{api.Beacon{Epoch: 0x01020304}, "\x01\x02\x03\x04\x00"},
		{api.Beacon{Echoes: []api.Echo{{}}}, "\x00\x00\x00\x00\x01\x00\x00\x00\x00\x00"},
		{api.Beacon{Epoch: 255, Echoes: []api.Echo{{Id: 63, Epoch: 4294967295}}}, "\x00\x00\x00\xff\x01\x3f\xff\xff\xff\xff"},
		{api.Beacon{Epoch: 256, Echoes: []api.Echo{{Id: 0, Epoch: 65536}, {Id: 63, Epoch: 0}}}, "\x00\x00\x01\x00\x02\x00\x00\x01\x00\x00\x3f\x00\x00\x00\x00"},
		{api.Beacon{Epoch: 9, Echoes: []api.Echo{{Id: 7, Epoch: 0x0a0b0c0d}, {Id: 8, Epoch: 3}, {Id: 9, Epoch: 3}}}, "\x00\x00\x00\x09\x03\x07\x0a\x0b\x0c\x0d\x08\x00\x00\x00\x03\x09\x00\x00\x00\x03"},
		{all(), allBytes()},
	}
}

// wrong are beacons that are not right: each of one thing alone.
func wrong() []api.Beacon {
	var l []api.Beacon
	for _, n := range []int{-1, -4294967295, 4294967296, 4294967297, 1 << 40, math.MinInt, math.MaxInt} {
		l = append(l, api.Beacon{Epoch: n}, api.Beacon{Epoch: n, Echoes: []api.Echo{{Id: 5, Epoch: 2}}},
			api.Beacon{Echoes: []api.Echo{{Id: 5, Epoch: n}}},
			api.Beacon{Echoes: []api.Echo{{Id: 5, Epoch: n}, {Id: 6}}},
			api.Beacon{Echoes: []api.Echo{{Id: 4}, {Id: 5, Epoch: n}}})
	}
	for _, id := range []int{-1, -2, -64, math.MinInt} {
		l = append(l, api.Beacon{Echoes: []api.Echo{{Id: id}}}, api.Beacon{Echoes: []api.Echo{{Id: id}, {Id: 5}}})
	}
	for _, id := range []int{64, 65, 255, 256, 261, math.MaxInt} {
		l = append(l, api.Beacon{Echoes: []api.Echo{{Id: id}}}, api.Beacon{Echoes: []api.Echo{{Id: 5}, {Id: id}}})
	}
	for _, ids := range [][]int{{5, 5}, {0, 0}, {63, 63}, {5, 4}, {63, 0}, {1, 2, 2}, {1, 1, 2}, {1, 3, 2}, {2, 1, 3}, {1, 2, 1}} {
		x := api.Beacon{}
		for i, id := range ids {
			x.Echoes = append(x.Echoes, api.Echo{Id: id, Epoch: i})
		}
		l = append(l, x)
	}
	tooMany := all()
	tooMany.Echoes = append(tooMany.Echoes, api.Echo{Id: 63})
	return append(l, tooMany)
}

// some answers a beacon that hears those nodes whose bits of mask are 1, of epochs that hang on which ones these are.
func some(mask uint64) api.Beacon {
	x := api.Beacon{Epoch: int(mask % 1009)}
	for id := range api.MaxNodes {
		if mask>>id&1 == 1 {
			x.Echoes = append(x.Echoes, api.Echo{Id: id, Epoch: int((mask + uint64(id)*131) % (api.MaxWord + 1))})
		}
	}
	return x
}

// masks are sets of nodes: none, each one alone, those ahead of it, those behind it, all, and others that have no order.
func masks() []uint64 {
	l := []uint64{0, math.MaxUint64}
	for id := range api.MaxNodes {
		l = append(l, 1<<id, 1<<id-1, ^uint64(1<<id-1), ^uint64(1<<id))
	}
	for mask, i := uint64(7), 0; i < 40; i++ {
		mask = mask*6364136223846793005 + 1442695040888963407
		l = append(l, mask)
	}
	return l
}

// same tells whether two beacons are alike.
func same(a, b api.Beacon) bool { return a.Epoch == b.Epoch && slices.Equal(a.Echoes, b.Echoes) }

// empty tells whether x is noughts.
func empty(x api.Beacon) bool { return x.Epoch == 0 && len(x.Echoes) == 0 }

func TestCheckTakesWhatIsRight(t *testing.T) { // P6.1
	for _, k := range known() {
		if e := beacon.Check(k.x); e != api.OK {
			t.Errorf("Check(%v): %d", k.x, e)
		}
	}
	for _, mask := range masks() {
		if e := beacon.Check(some(mask)); e != api.OK {
			t.Errorf("Check(%v): %d", some(mask), e)
		}
	}
	for id := range api.MaxNodes {
		for _, epoch := range []int{0, 1, 4294967294, 4294967295} {
			if e := beacon.Check(api.Beacon{Epoch: epoch, Echoes: []api.Echo{{Id: id, Epoch: epoch}}}); e != api.OK {
				t.Errorf("Check of %d, epoch %d: %d", id, epoch, e)
			}
		}
	}
}

func TestWhatIsNotRightIsTurnedAway(t *testing.T) { // P6.1, R1
	for _, x := range wrong() {
		if e := beacon.Check(x); e != api.ErrArg {
			t.Errorf("Check(%v): %d, want ErrArg", x, e)
		}
		if b, e := beacon.Bytes(x); len(b) != 0 || e != api.ErrArg {
			t.Errorf("Bytes(%v): %x, %d, want none, ErrArg", x, b, e)
		}
	}
}

func TestBytesOfBeacons(t *testing.T) { // P6.1
	for _, k := range known() {
		if b, e := beacon.Bytes(k.x); string(b) != k.b || e != api.OK {
			t.Errorf("Bytes(%v): %x, %d, want %x", k.x, b, e, k.b)
		}
	}
}

func TestParseAnswersTheBeaconAndThePlaceBehind(t *testing.T) { // P6.1
	for _, k := range known() {
		if x, at, e := beacon.Parse([]byte(k.b), 0); !same(x, k.x) || at != len(k.b) || e != api.OK {
			t.Errorf("Parse(%x): %v, %d, %d, want %v, %d", k.b, x, at, e, k.x, len(k.b))
		}
	}
}

// refused tells whether Parse answers this error, and noughts.
func refused(t *testing.T, b string, at int, want api.Errno) {
	t.Helper()
	if x, behind, e := beacon.Parse([]byte(b), at); !empty(x) || behind != 0 || e != want {
		t.Errorf("Parse(%x, %d): %v, %d, %d, want noughts, %d", b, at, x, behind, e, want)
	}
}

func TestParseOfPlacesThatAreNone(t *testing.T) { // P6.1, R1
	for _, at := range []int{-1, -5, 6, 7, math.MinInt, math.MaxInt} {
		refused(t, "\x00\x00\x00\x00\x00", at, api.ErrArg)
	}
	refused(t, "", 1, api.ErrArg)
	refused(t, "", -1, api.ErrArg)
	if x, behind, e := beacon.Parse(nil, 1); !empty(x) || behind != 0 || e != api.ErrArg {
		t.Errorf("Parse(nil, 1): %v, %d, %d", x, behind, e)
	}
}

func TestParseOfBytesThatAreLacking(t *testing.T) { // P6.1, R1
	for at := 1; at <= 5; at++ {
		refused(t, "\x00\x00\x00\x00\x00", at, api.ErrMore)
	}
	if x, behind, e := beacon.Parse(nil, 0); !empty(x) || behind != 0 || e != api.ErrMore {
		t.Errorf("Parse(nil, 0): %v, %d, %d", x, behind, e)
	}
	for _, k := range known() {
		for n := range k.b {
			refused(t, k.b[:n], 0, api.ErrMore)
			refused(t, "\x07\x07"+k.b[:n], 2, api.ErrMore)
			roomy := []byte(k.b)
			if x, behind, e := beacon.Parse(roomy[:n], 0); !empty(x) || behind != 0 || e != api.ErrMore {
				t.Errorf("Parse of %d bytes of %x: %v, %d, %d", n, k.b, x, behind, e)
			}
		}
	}
}

// rows answers n echoes' bytes, of the node 0 on, of epochs of nought.
func rows(n int) string {
	var b []byte
	for id := range n {
		b = append(b, byte(id), 0, 0, 0, 0)
	}
	return string(b)
}

func TestParseReadsAsManyEchoesAsAreTold(t *testing.T) { // P6.1
	for n := range api.MaxNodes + 1 {
		b := "\x00\x00\x00\x09" + string([]byte{byte(n)}) + rows(70)
		x, at, e := beacon.Parse([]byte(b), 0)
		if x.Epoch != 9 || len(x.Echoes) != n || at != 5+5*n || e != api.OK {
			t.Errorf("%d echoes: %v, %d, %d", n, x, at, e)
		}
		for i, o := range x.Echoes {
			if o != (api.Echo{Id: i}) {
				t.Errorf("echo %d of %d: %v", i, n, o)
			}
		}
	}
}

func TestParseOfMoreEchoesThanThereAreNodes(t *testing.T) { // P6.1
	for n := api.MaxNodes + 1; n < 256; n++ {
		b := "\x00\x00\x00\x09" + string([]byte{byte(n)}) + rows(n)
		refused(t, b, 0, api.ErrForm)
		refused(t, b+"\x00", 0, api.ErrForm)
		refused(t, b[:len(b)-1], 0, api.ErrMore)
		refused(t, b[:5], 0, api.ErrMore)
	}
}

func TestParseOfEchoesThatMayNotBe(t *testing.T) { // P6.1
	const epoch = "\x00\x00\x00\x02"
	for _, ids := range []string{
		"\x40", "\x41", "\x7f", "\x80", "\xff",
		"\x05\x40", "\x40\x41", "\x40\x05",
		"\x05\x05", "\x00\x00", "\x3f\x3f",
		"\x05\x04", "\x3f\x00",
		"\x01\x02\x02", "\x01\x01\x02", "\x01\x03\x02", "\x02\x01\x03", "\x01\x02\x01",
	} {
		b := "\x00\x00\x00\x01" + string([]byte{byte(len(ids))})
		for i := range ids {
			b += ids[i:i+1] + epoch
		}
		for _, rest := range []string{"", "\x00", "\x3f" + epoch} {
			refused(t, b+rest, 0, api.ErrForm)
			refused(t, "\x00"+b+rest, 1, api.ErrForm)
		}
		// What is lacking behind an echo that may not be is told first.
		for n := range b {
			refused(t, b[:n], 0, api.ErrMore)
		}
	}
}

func TestParseDoesNotReadBehindTheEchoes(t *testing.T) { // P6.1
	for _, rest := range []string{"\x00", "\x05", "\x40\x00\x00\x00\x00", "\xff\xff\xff"} {
		b := "\x00\x00\x00\x01\x01\x05\x00\x00\x00\x02" + rest
		if x, at, e := beacon.Parse([]byte(b), 0); !same(x, known()[0].x) || at != 10 || e != api.OK {
			t.Errorf("Parse(%x): %v, %d, %d", b, x, at, e)
		}
	}
}

func TestHeardAnswersTheEpoch(t *testing.T) { // P6.2
	for _, mask := range masks() {
		x := some(mask)
		at := 0
		for id := range api.MaxNodes {
			want, there := 0, mask>>id&1 == 1
			if there {
				want = x.Echoes[at].Epoch
				at++
			}
			if epoch, ok := beacon.Heard(x, id); epoch != want || ok != there {
				t.Errorf("Heard(%v, %d): %d, %v", x, id, epoch, ok)
			}
		}
		for _, id := range []int{-1, -64, 64, 65, 255, math.MinInt, math.MaxInt} {
			if epoch, ok := beacon.Heard(x, id); epoch != 0 || ok {
				t.Errorf("Heard(%v, %d): %d, %v", x, id, epoch, ok)
			}
		}
	}
}

func TestHeardTakesTheFirstEchoOfABeaconThatIsNotRight(t *testing.T) { // P6.2, R1
	x := api.Beacon{Epoch: -7, Echoes: []api.Echo{{Id: 9, Epoch: 4}, {Id: 5, Epoch: 0}, {Id: 5, Epoch: 1}, {Id: -1, Epoch: -3}, {Id: 64, Epoch: math.MaxInt}, {Id: 9, Epoch: 2}}}
	for _, k := range []struct {
		id, epoch int
		ok        bool
	}{
		{9, 4, true},
		{5, 0, true},
		{-1, -3, true},
		{64, math.MaxInt, true},
		{0, 0, false},
		{4, 0, false},
		{63, 0, false},
		{-7, 0, false},
	} {
		if epoch, ok := beacon.Heard(x, k.id); epoch != k.epoch || ok != k.ok {
			t.Errorf("Heard(%d): %d, %v, want %d, %v", k.id, epoch, ok, k.epoch, k.ok)
		}
	}
}

func TestWithPutsTheEchoInItsPlace(t *testing.T) { // P6.2
	x := api.Beacon{Epoch: 8, Echoes: []api.Echo{{Id: 5, Epoch: 2}, {Id: 9, Epoch: 3}}}
	for _, k := range []struct {
		x         api.Beacon
		id, epoch int
		want      []api.Echo
	}{
		{api.Beacon{Epoch: 8}, 0, 0, []api.Echo{{Id: 0, Epoch: 0}}},
		{api.Beacon{Epoch: 8, Echoes: []api.Echo{}}, 63, 4294967295, []api.Echo{{Id: 63, Epoch: 4294967295}}},
		{x, 0, 7, []api.Echo{{Id: 0, Epoch: 7}, {Id: 5, Epoch: 2}, {Id: 9, Epoch: 3}}},
		{x, 4, 7, []api.Echo{{Id: 4, Epoch: 7}, {Id: 5, Epoch: 2}, {Id: 9, Epoch: 3}}},
		{x, 5, 7, []api.Echo{{Id: 5, Epoch: 7}, {Id: 9, Epoch: 3}}},
		{x, 5, 2, []api.Echo{{Id: 5, Epoch: 2}, {Id: 9, Epoch: 3}}},
		{x, 5, 0, []api.Echo{{Id: 5, Epoch: 0}, {Id: 9, Epoch: 3}}},
		{x, 6, 7, []api.Echo{{Id: 5, Epoch: 2}, {Id: 6, Epoch: 7}, {Id: 9, Epoch: 3}}},
		{x, 9, 1, []api.Echo{{Id: 5, Epoch: 2}, {Id: 9, Epoch: 1}}},
		{x, 10, 7, []api.Echo{{Id: 5, Epoch: 2}, {Id: 9, Epoch: 3}, {Id: 10, Epoch: 7}}},
		{x, 63, 7, []api.Echo{{Id: 5, Epoch: 2}, {Id: 9, Epoch: 3}, {Id: 63, Epoch: 7}}},
	} {
		if y, e := beacon.With(k.x, k.id, k.epoch); !same(y, api.Beacon{Epoch: 8, Echoes: k.want}) || e != api.OK {
			t.Errorf("With(%v, %d, %d): %v, %d, want %v", k.x, k.id, k.epoch, y, e, k.want)
		}
	}
}

func TestWithTurnsAwayWhatMayNotBe(t *testing.T) { // P6.2, R1
	for _, x := range wrong() {
		// Also an echo that would take the place of the wrong one.
		for id := range api.MaxNodes {
			if y, e := beacon.With(x, id, 2); !empty(y) || e != api.ErrArg {
				t.Errorf("With(%v, %d, 2): %v, %d, want noughts, ErrArg", x, id, y, e)
			}
		}
	}
	for _, k := range known() {
		for _, id := range []int{-1, -2, 64, 65, 255, 256, math.MinInt, math.MaxInt} {
			if y, e := beacon.With(k.x, id, 2); !empty(y) || e != api.ErrArg {
				t.Errorf("With(%v, %d, 2): %v, %d, want noughts, ErrArg", k.x, id, y, e)
			}
		}
		for _, epoch := range []int{-1, 4294967296, 1 << 40, math.MinInt, math.MaxInt} {
			for _, id := range []int{0, 5, 6, 63} {
				if y, e := beacon.With(k.x, id, epoch); !empty(y) || e != api.ErrArg {
					t.Errorf("With(%v, %d, %d): %v, %d, want noughts, ErrArg", k.x, id, epoch, y, e)
				}
			}
		}
	}
}

func TestWithoutTakesTheEchoAway(t *testing.T) { // P6.2
	x := api.Beacon{Epoch: 8, Echoes: []api.Echo{{Id: 0, Epoch: 2}, {Id: 9, Epoch: 3}, {Id: 63, Epoch: 4}}}
	for _, k := range []struct {
		x    api.Beacon
		id   int
		want []api.Echo
	}{
		{x, 0, x.Echoes[1:]},
		{x, 9, []api.Echo{x.Echoes[0], x.Echoes[2]}},
		{x, 63, x.Echoes[:2]},
		{api.Beacon{Epoch: 8, Echoes: x.Echoes[1:2]}, 9, nil},
	} {
		if y, e := beacon.Without(k.x, k.id); !same(y, api.Beacon{Epoch: 8, Echoes: k.want}) || e != api.OK {
			t.Errorf("Without(%v, %d): %v, %d, want %v", k.x, k.id, y, e, k.want)
		}
	}
}

func TestWithoutTurnsAwayWhatMayNotBe(t *testing.T) { // P6.2, R1
	for _, x := range wrong() {
		for _, id := range []int{-1, 0, 2, 5, 6, 63, 64} {
			if y, e := beacon.Without(x, id); !empty(y) || e != api.ErrArg {
				t.Errorf("Without(%v, %d): %v, %d, want noughts, ErrArg", x, id, y, e)
			}
		}
	}
	for _, k := range known() {
		for _, id := range []int{-1, -2, 64, 65, 255, 256, math.MinInt, math.MaxInt} {
			if y, e := beacon.Without(k.x, id); !empty(y) || e != api.ErrNone {
				t.Errorf("Without(%v, %d): %v, %d, want noughts, ErrNone", k.x, id, y, e)
			}
		}
	}
	for id := range api.MaxNodes {
		for _, x := range []api.Beacon{{Epoch: 3}, some(^uint64(1 << id))} {
			if y, e := beacon.Without(x, id); !empty(y) || e != api.ErrNone {
				t.Errorf("Without(%v, %d): %v, %d, want noughts, ErrNone", x, id, y, e)
			}
		}
	}
}

func TestWhatHasBytesIsParsedAsItself(t *testing.T) { // P6.3
	for _, k := range known() {
		for lead := range 4 {
			b := strings.Repeat("\x01", lead) + k.b + "\xff\x01"
			if x, at, e := beacon.Parse([]byte(b), lead); !same(x, k.x) || at != lead+len(k.b) || e != api.OK {
				t.Errorf("Parse of %v behind %d: %v, %d, %d", k.x, lead, x, at, e)
			}
		}
	}
	var b []byte
	for _, mask := range masks() {
		one, e := beacon.Bytes(some(mask))
		if e != api.OK {
			t.Fatalf("Bytes(%v): %d", some(mask), e)
		}
		b = append(b, one...)
	}
	at := 0
	for _, mask := range masks() {
		x, behind, e := beacon.Parse(b, at)
		if !same(x, some(mask)) || e != api.OK {
			t.Fatalf("Parse at %d: %v, %d, want %v", at, x, e, some(mask))
		}
		at = behind
	}
	if at != len(b) {
		t.Errorf("%d bytes of %d", at, len(b))
	}
}

// checkParsed tells whether what is parsed is right, and has the bytes that were read.
func checkParsed(t *testing.T, b []byte) {
	t.Helper()
	x, at, e := beacon.Parse(b, 0)
	if e != api.OK {
		if !empty(x) || at != 0 || e != api.ErrForm && e != api.ErrMore {
			t.Errorf("Parse(%x): %v, %d, %d", b, x, at, e)
		}
		return
	}
	back, e := beacon.Bytes(x)
	if e != api.OK || !bytes.Equal(back, b[:at]) {
		t.Errorf("Parse(%x): %v, %d, whose bytes are %x, %d", b, x, at, back, e)
	}
}

func TestWhatIsParsedHasTheBytesThatWereRead(t *testing.T) { // P6.1, P6.3, R1
	for _, k := range known() {
		for i := range min(len(k.b), 40) {
			for c := range 256 {
				b := []byte(k.b)
				b[i] = byte(c)
				checkParsed(t, b)
				checkParsed(t, append(b, rows(64)...))
			}
		}
	}
}

func TestWhatWasPutIsHeardAndTurnsNoOtherOne(t *testing.T) { // P6.3
	for _, mask := range masks() {
		x := some(mask)
		for id := range api.MaxNodes {
			y, e := beacon.With(x, id, 12345)
			if e != api.OK || beacon.Check(y) != api.OK || y.Epoch != x.Epoch {
				t.Fatalf("With(%v, %d): %v, %d", x, id, y, e)
			}
			if epoch, ok := beacon.Heard(y, id); epoch != 12345 || !ok {
				t.Errorf("With(%v, %d): %v", x, id, y)
			}
			for other := range api.MaxNodes {
				is, now := beacon.Heard(y, other)
				was, ahead := beacon.Heard(x, other)
				if other != id && (is != was || now != ahead) {
					t.Errorf("With(%v, %d): %d is heard of %d, %v", x, id, other, is, now)
				}
			}
		}
	}
}

func TestWhatWasPutIsTakenAwayAgain(t *testing.T) { // P6.3
	for _, mask := range masks() {
		x := some(mask)
		for id := range api.MaxNodes {
			y, _ := beacon.With(x, id, 12345)
			y, e := beacon.Without(y, id)
			if want := (api.Beacon{Epoch: x.Epoch, Echoes: some(mask).Echoes}); mask>>id&1 == 0 && (!same(y, want) || e != api.OK) {
				t.Errorf("With and Without of %v, %d: %v, %d", x, id, y, e)
			}
			if _, ok := beacon.Heard(y, id); ok || e != api.OK {
				t.Errorf("With and Without of %v, %d: %v, %d", x, id, y, e)
			}
			was, there := beacon.Heard(x, id)
			if y, _ = beacon.With(y, id, was); there && !same(y, x) {
				t.Errorf("put back into %v, %d: %v", x, id, y)
			}
		}
	}
}

func TestWhatIsHandedInStaysAsItIs(t *testing.T) { // R2
	room := all().Echoes
	was := slices.Clone(room)
	for n := range room {
		x := api.Beacon{Epoch: 3, Echoes: room[:n]}
		beacon.Check(x)
		beacon.Bytes(x)
		for _, id := range []int{-1, 0, n - 1, n, n + 1, 63, 64} {
			beacon.Heard(x, id)
			beacon.With(x, id, 99)
			beacon.Without(x, id)
		}
	}
	if !slices.Equal(room, was) {
		t.Errorf("echoes that were handed in are others: %v", room)
	}
	for _, k := range known() {
		b := []byte(k.b + "\x01\x02\x03\x04")
		old := bytes.Clone(b)
		beacon.Parse(b[:len(k.b)], 0)
		beacon.Parse(b[:len(k.b)-1], 0)
		if !bytes.Equal(b, old) {
			t.Errorf("Parse wrote into what was handed in: %x, was %x", b, old)
		}
	}
}

func TestAnswersShareNoMemory(t *testing.T) { // R2
	for _, mask := range masks() {
		for _, id := range []int{0, 1, 31, 62, 63} {
			x := some(mask)
			with, _ := beacon.With(x, id, 99)
			without, _ := beacon.Without(with, id)
			_ = append(without.Echoes, api.Echo{Id: 77})
			clear(without.Echoes)
			again, _ := beacon.With(x, id, 99)
			if !same(with, again) {
				t.Errorf("Without(%v, %d) shares memory with what was handed in", again, id)
			}
			_ = append(with.Echoes, api.Echo{Id: 77})
			clear(with.Echoes)
			if !same(x, some(mask)) {
				t.Errorf("With(%v, %d) shares memory with what was handed in", some(mask), id)
			}
			clear(x.Echoes)
			if again, _ := beacon.With(some(mask), id, 99); len(again.Echoes) != len(with.Echoes) {
				t.Errorf("With(%v, %d) again: %v", some(mask), id, again)
			}
		}
	}
	for _, k := range known() {
		b, _ := beacon.Bytes(k.x)
		x, _, _ := beacon.Parse(b, 0)
		for i := range b {
			b[i] = 0xaa
		}
		if again, _ := beacon.Bytes(k.x); string(again) != k.b || !same(x, k.x) {
			t.Errorf("Bytes(%v) again: %x, want %x; parsed %v", k.x, again, k.b, x)
		}
	}
}

func TestCallsAtOneTimeDoNotMeet(t *testing.T) { // R2
	var workers sync.WaitGroup
	x := some(0x5a5a0ff0c3c3a5a5) // heard by all workers at one time
	turned := make([]int, 8)
	for k := range turned {
		workers.Go(func() {
			for i := range 300 {
				id := (i*7 + k*8) % api.MaxNodes
				y, _ := beacon.With(x, id, 1000*k+i)
				b, _ := beacon.Bytes(y)
				z, at, e := beacon.Parse(b, 0)
				epoch, ok := beacon.Heard(z, id)
				if !same(y, z) || at != len(b) || e != api.OK || epoch != 1000*k+i || !ok {
					turned[k]++
				}
				if z, e = beacon.Without(z, id); len(z.Echoes) != len(y.Echoes)-1 || e != api.OK {
					turned[k]++
				}
			}
		})
	}
	workers.Wait()
	for k, n := range turned {
		if n != 0 {
			t.Errorf("worker %d: %d answers of others", k, n)
		}
	}
}
