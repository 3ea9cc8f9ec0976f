package object_test

import (
	"bytes"
	"math"
	"strings"
	"sync"
	"testing"

	"thalweg/api"
	"thalweg/object"
)

const longest = 24 // bytes of an Opt, than which no object has more

// known are objects and the bytes that they have.
func known() map[api.Object]string {
	row := api.Height{Tau: 0x0102030405060708, Oid: 9, R: 1, Delta: 0xa0b0c0d0e, Id: 15}
	rowBytes := "\x01" + "\x01\x02\x03\x04\x05\x06\x07\x08" + "\x09\x01" + "\x00\x00\x00\x0a\x0b\x0c\x0d\x0e" + "\x0f"
	most := api.Height{Tau: api.MaxTau, Oid: 63, R: 1, Delta: -api.MaxDelta, Id: 63}
	mostBytes := "\x01" + "\x3f\xff\xff\xff\xff\xff\xff\xff" + "\x3f\x01" + "\xff\xff\xff\x00\x00\x00\x00\x00" + "\x3f"
	noughts := strings.Repeat("\x00", 19)
	return map[api.Object]string{
		{Kind: api.Qry}:           "\x01\x00",
		{Kind: api.Qry, Dest: 5}:  "\x01\x05",
		{Kind: api.Qry, Dest: 63}: "\x01\x3f",
		{Kind: api.Upd, Dest: 5, Height: api.Height{Null: true, Id: 2}}: "\x02\x05\x00\x02",
		{Kind: api.Upd, Height: api.Height{Null: true}}:                 "\x02\x00\x00\x00",
		{Kind: api.Upd, Height: api.Height{Null: true, Id: 63}}:         "\x02\x00\x00\x3f",
		{Kind: api.Upd}:                         "\x02\x00\x01" + noughts,
		{Kind: api.Upd, Dest: 62, Height: row}:  "\x02\x3e" + rowBytes,
		{Kind: api.Upd, Dest: 63, Height: most}: "\x02\x3f" + mostBytes,
		{Kind: api.Clr}:                         "\x03\x00" + "\x00\x00\x00\x00\x00\x00\x00\x00" + "\x00\x00",
		{Kind: api.Clr, Dest: 7, Level: api.Level{Tau: 258, Oid: 3, R: 1}}:  "\x03\x07" + "\x00\x00\x00\x00\x00\x00\x01\x02" + "\x03\x01",
		{Kind: api.Clr, Dest: 63, Level: api.Level{Oid: 63}}:                "\x03\x3f" + "\x00\x00\x00\x00\x00\x00\x00\x00" + "\x3f\x00",
		{Kind: api.Clr, Level: api.Level{Tau: api.MaxTau, Oid: 63, R: 1}}:   "\x03\x00" + "\x3f\xff\xff\xff\xff\xff\xff\xff" + "\x3f\x01",
		{Kind: api.Clr, Dest: 1, Level: api.Level{Tau: 0x0102030405060708}}: "\x03\x01" + "\x01\x02\x03\x04\x05\x06\x07\x08" + "\x00\x00",
		{Kind: api.Opt}: "\x04\x00\x01" + noughts + "\x00\x00",
		{Kind: api.Opt, Dest: 1, Height: row, Number: 258}:                        "\x04\x01" + rowBytes + "\x01\x02",
		{Kind: api.Opt, Dest: 2, Height: row, Number: 255}:                        "\x04\x02" + rowBytes + "\x00\xff",
		{Kind: api.Opt, Dest: 63, Height: most, Number: 65535}:                    "\x04\x3f" + mostBytes + "\xff\xff",
		{Kind: api.Opt, Height: api.Height{Delta: 1, Id: 4}, Number: 65280}:       "\x04\x00\x01" + noughts[:17] + "\x01\x04" + "\xff\x00",
		{Kind: api.Opt, Dest: 9, Height: api.Height{Delta: -1, Id: 4}}:            "\x04\x09\x01" + noughts[:10] + "\xff\xff\xff\xff\xff\xff\xff\xff\x04" + "\x00\x00",
		{Kind: api.Opt, Height: api.Height{Delta: api.MaxDelta, R: 1}, Number: 1}: "\x04\x00\x01" + noughts[:9] + "\x01" + "\x00\x00\x01\x00\x00\x00\x00\x00\x00" + "\x00\x01",
	}
}

// wrongHeights are heights that are not right, none of them noughts.
func wrongHeights() []api.Height {
	l := []api.Height{
		{Id: -1},
		{Id: 64},
		{Id: 256},
		{Delta: -api.MaxDelta - 1},
		{Delta: api.MaxDelta + 1},
		{Delta: math.MinInt},
		{Null: true, Id: -1},
		{Null: true, Id: 64},
		{Null: true, Tau: 1},
		{Null: true, Oid: 1},
		{Null: true, R: 1},
		{Null: true, Delta: 1},
	}
	for _, v := range wrongLevels() {
		l = append(l, api.Height{Tau: v.Tau, Oid: v.Oid, R: v.R})
	}
	return l
}

// wrongLevels are levels that no height has which is right.
func wrongLevels() []api.Level {
	return []api.Level{
		{Tau: -1},
		{Tau: api.MaxTau + 1},
		{Tau: math.MinInt},
		{Tau: math.MaxInt},
		{Oid: -1},
		{Oid: 64},
		{Oid: 256},
		{R: -1},
		{R: 2},
		{R: 256},
	}
}

// wrong are objects that are not right: each of one thing alone.
func wrong() []api.Object {
	var l []api.Object
	for _, kind := range []int{0, 5, -1, 255, 256, 257, 258, math.MinInt, math.MaxInt} {
		l = append(l, api.Object{Kind: kind}, api.Object{Kind: kind, Dest: 5})
	}
	for kind := api.Qry; kind <= api.Opt; kind++ {
		for _, dest := range []int{-1, 64, 255, 256, 261, math.MinInt, math.MaxInt} {
			l = append(l, api.Object{Kind: kind, Dest: dest})
		}
		for _, n := range []int{-1, 65536, 131071, math.MinInt, math.MaxInt} {
			l = append(l, api.Object{Kind: kind, Number: n})
		}
		for _, h := range wrongHeights() {
			l = append(l, api.Object{Kind: kind, Dest: 3, Height: h})
		}
		for _, v := range wrongLevels() {
			l = append(l, api.Object{Kind: kind, Dest: 3, Level: v})
		}
	}
	l = append(l, withTooMuch()...)
	return append(l, api.Object{Kind: api.Opt, Height: api.Height{Null: true}},
		api.Object{Kind: api.Opt, Dest: 5, Height: api.Height{Null: true, Id: 5}, Number: 9})
}

// withTooMuch are objects with something that is right, but not of their kind.
func withTooMuch() []api.Object {
	heights := []api.Height{{Null: true}, {Tau: 1}, {Oid: 1}, {R: 1}, {Delta: 1}, {Delta: -1}, {Id: 1}, {Null: true, Id: 63}}
	levels := []api.Level{{Tau: 1}, {Oid: 1}, {R: 1}, {Tau: api.MaxTau, Oid: 63, R: 1}}
	var l []api.Object
	for _, h := range heights {
		l = append(l, api.Object{Kind: api.Qry, Height: h}, api.Object{Kind: api.Clr, Height: h})
	}
	for _, v := range levels {
		l = append(l, api.Object{Kind: api.Qry, Level: v}, api.Object{Kind: api.Upd, Level: v}, api.Object{Kind: api.Opt, Level: v},
			api.Object{Kind: api.Upd, Height: api.Height{Null: true, Id: 2}, Level: v},
			api.Object{Kind: api.Opt, Height: api.Height{Tau: v.Tau, Oid: v.Oid, R: v.R}, Level: v})
	}
	for _, n := range []int{1, 65535} {
		l = append(l, api.Object{Kind: api.Qry, Number: n}, api.Object{Kind: api.Upd, Number: n}, api.Object{Kind: api.Clr, Number: n},
			api.Object{Kind: api.Upd, Height: api.Height{Null: true, Id: 2}, Number: n},
			api.Object{Kind: api.Clr, Level: api.Level{Tau: 4}, Number: n})
	}
	return l
}

// many are objects that are right: all of few numbers each.
func many() []api.Object {
	var l []api.Object
	for _, dest := range []int{0, 1, 31, 63} {
		l = append(l, api.Object{Kind: api.Qry, Dest: dest})
		for id := range 64 {
			l = append(l, api.Object{Kind: api.Upd, Dest: dest, Height: api.Height{Null: true, Id: id}})
		}
		for _, tau := range []int{0, 1, 256, api.MaxTau} {
			for _, oid := range []int{0, 63} {
				for r := range 2 {
					l = append(l, api.Object{Kind: api.Clr, Dest: dest, Level: api.Level{Tau: tau, Oid: oid, R: r}})
					for _, delta := range []int{-api.MaxDelta, -1, 0, api.MaxDelta} {
						h := api.Height{Tau: tau, Oid: oid, R: r, Delta: delta, Id: oid ^ 2}
						l = append(l, api.Object{Kind: api.Upd, Dest: dest, Height: h})
						for _, n := range []int{0, 1, 256, 65535} {
							l = append(l, api.Object{Kind: api.Opt, Dest: dest, Height: h, Number: n})
						}
					}
				}
			}
		}
	}
	return l
}

func TestCheckTakesWhatIsRight(t *testing.T) { // P4.1
	for o := range known() {
		if e := object.Check(o); e != api.OK {
			t.Errorf("Check(%v): %d", o, e)
		}
	}
	for _, o := range many() {
		if e := object.Check(o); e != api.OK {
			t.Errorf("Check(%v): %d", o, e)
		}
	}
	for dest := range 64 {
		for kind := api.Qry; kind <= api.Opt; kind++ {
			if e := object.Check(api.Object{Kind: kind, Dest: dest}); e != api.OK {
				t.Errorf("Check of kind %d, of %d: %d", kind, dest, e)
			}
		}
	}
}

func TestWhatIsNotRightIsTurnedAway(t *testing.T) { // P4.1, R1
	for _, o := range wrong() {
		if e := object.Check(o); e != api.ErrArg {
			t.Errorf("Check(%v): %d, want ErrArg", o, e)
		}
		if b, e := object.Bytes(o); len(b) != 0 || e != api.ErrArg {
			t.Errorf("Bytes(%v): %x, %d, want none, ErrArg", o, b, e)
		}
		if n := object.Size(o); n != 0 {
			t.Errorf("Size(%v): %d, want 0", o, n)
		}
	}
}

func TestBytesOfObjects(t *testing.T) { // P4.1
	for o, want := range known() {
		if b, e := object.Bytes(o); string(b) != want || e != api.OK {
			t.Errorf("Bytes(%v): %x, %d, want %x", o, b, e, want)
		}
	}
}

func TestSizeTellsHowManyBytes(t *testing.T) { // P4.1
	for _, x := range []struct {
		o    api.Object
		want int
	}{
		{api.Object{Kind: api.Qry, Dest: 5}, 2},
		{api.Object{Kind: api.Upd, Dest: 5, Height: api.Height{Null: true, Id: 2}}, 4},
		{api.Object{Kind: api.Upd, Dest: 5, Height: api.Height{Id: 2}}, 22},
		{api.Object{Kind: api.Clr, Dest: 5}, 12},
		{api.Object{Kind: api.Opt, Dest: 5, Number: 65535}, longest},
	} {
		if n := object.Size(x.o); n != x.want {
			t.Errorf("Size(%v): %d, want %d", x.o, n, x.want)
		}
	}
	for _, o := range many() {
		if b, _ := object.Bytes(o); object.Size(o) != len(b) {
			t.Errorf("Size(%v): %d, but %d bytes", o, object.Size(o), len(b))
		}
	}
}

func TestParseAnswersTheObjectAndThePlaceBehind(t *testing.T) { // P4.2
	for want, b := range known() {
		if o, at, e := object.Parse([]byte(b), 0); o != want || at != len(b) || e != api.OK {
			t.Errorf("Parse(%x): %v, %d, %d, want %v, %d", b, o, at, e, want, len(b))
		}
	}
}

// refused tells whether Parse answers this error, and noughts.
func refused(t *testing.T, b string, at int, want api.Errno) {
	t.Helper()
	if o, behind, e := object.Parse([]byte(b), at); o != (api.Object{}) || behind != 0 || e != want {
		t.Errorf("Parse(%x, %d): %v, %d, %d, want noughts, %d", b, at, o, behind, e, want)
	}
}

func TestParseOfPlacesThatAreNone(t *testing.T) { // P4.2, R1
	for _, at := range []int{-1, 5, 6, math.MinInt, math.MaxInt} {
		refused(t, "\x01\x05\x01\x06", at, api.ErrArg)
	}
	refused(t, "", 1, api.ErrArg)
	refused(t, "", -1, api.ErrArg)
	if o, behind, e := object.Parse(nil, 1); o != (api.Object{}) || behind != 0 || e != api.ErrArg {
		t.Errorf("Parse(nil, 1): %v, %d, %d", o, behind, e)
	}
}

func TestParseOfBytesThatAreLacking(t *testing.T) { // P4.2, R1
	refused(t, "\x01\x05", 2, api.ErrMore)
	if o, behind, e := object.Parse(nil, 0); o != (api.Object{}) || behind != 0 || e != api.ErrMore {
		t.Errorf("Parse(nil, 0): %v, %d, %d", o, behind, e)
	}
	for _, s := range known() {
		for n := range s {
			refused(t, s[:n], 0, api.ErrMore)
			refused(t, "\x07\x07"+s[:n], 2, api.ErrMore)
			roomy := []byte(s)
			if o, behind, e := object.Parse(roomy[:n], 0); o != (api.Object{}) || behind != 0 || e != api.ErrMore {
				t.Errorf("Parse of %d bytes of %x: %v, %d, %d", n, s, o, behind, e)
			}
		}
	}
}

func TestParseOfKindsThatAreNone(t *testing.T) { // P4.2
	for c := range 256 {
		if c >= api.Qry && c <= api.Opt {
			continue
		}
		for _, rest := range []int{0, 1, 2, 3, 11, 21, 23, 40} {
			refused(t, string([]byte{byte(c)})+strings.Repeat("\x00", rest), 0, api.ErrForm)
		}
		refused(t, string([]byte{1, 1, byte(c)}), 2, api.ErrForm)
	}
}

func TestParseOfDestsThatAreNone(t *testing.T) { // P4.2
	for _, s := range known() {
		for _, dest := range []string{"\x40", "\x41", "\x80", "\xff"} {
			refused(t, s[:1]+dest+s[2:], 0, api.ErrForm)
		}
	}
}

func TestParseOfLevelsThatAreNone(t *testing.T) { // P4.2
	for _, level := range []string{
		"\x40\x00\x00\x00\x00\x00\x00\x00" + "\x00\x00",
		"\x80\x00\x00\x00\x00\x00\x00\x00" + "\x00\x00",
		"\xff\xff\xff\xff\xff\xff\xff\xff" + "\x00\x00",
		"\x00\x00\x00\x00\x00\x00\x00\x00" + "\x40\x00",
		"\x00\x00\x00\x00\x00\x00\x00\x00" + "\xff\x00",
		"\x00\x00\x00\x00\x00\x00\x00\x00" + "\x00\x02",
		"\x00\x00\x00\x00\x00\x00\x00\x00" + "\x00\xff",
	} {
		refused(t, "\x03\x05"+level, 0, api.ErrForm)
		refused(t, "\x03\x05"+level+"\x01\x05", 0, api.ErrForm)
	}
}

func TestParseOfHeightsThatAreNone(t *testing.T) { // P4.2
	noughts := strings.Repeat("\x00", 19)
	for _, h := range []string{
		"\x02",
		"\xff",
		"\x00\x40",
		"\x00\xff",
		"\x01" + "\x40" + noughts[1:],
		"\x01" + noughts[:8] + "\x40" + noughts[9:],
		"\x01" + noughts[:9] + "\x02" + noughts[10:],
		"\x01" + noughts[:10] + "\x7f" + noughts[11:],
		"\x01" + noughts[:18] + "\x40",
	} {
		// The height's error comes ahead of that of a Number that is lacking.
		for _, rest := range []string{"", "\x00", "\x00\x00", "\x00\x00\x00"} {
			refused(t, "\x02\x05"+h+rest, 0, api.ErrForm)
			refused(t, "\x04\x05"+h+rest, 0, api.ErrForm)
		}
	}
}

func TestParseOfAnOptOfNull(t *testing.T) { // P4.2
	refused(t, "\x04\x05\x00\x02\x00\x00", 0, api.ErrForm)
	refused(t, "\x04\x05\x00\x02\x01\x02\x01\x05", 0, api.ErrForm)
	refused(t, "\x04\x05\x00\x02\x00", 0, api.ErrMore)
	refused(t, "\x04\x05\x00\x02", 0, api.ErrMore)
}

func TestParseReadsAllAheadOfWhatWouldNotBeRight(t *testing.T) { // P4.2, R1
	for _, s := range known() {
		s = s[:1] + "\xff" + s[2:]
		for n := range s {
			refused(t, s[:n], 0, api.ErrMore)
		}
		refused(t, s, 0, api.ErrForm)
	}
	clr := "\x03" + strings.Repeat("\xff", 11)
	for n := range clr {
		refused(t, clr[:n], 0, api.ErrMore)
	}
	refused(t, clr, 0, api.ErrForm)
}

func TestWhatHasBytesIsParsedAsItselfWhereverItStands(t *testing.T) { // P4.3
	for _, want := range many() {
		b, e := object.Bytes(want)
		if e != api.OK {
			t.Fatalf("Bytes(%v): %d", want, e)
		}
		for lead := range 4 {
			all := append(bytes.Repeat([]byte{4}, lead), b...)
			all = append(all, 0xff, 0x01)
			if o, at, e := object.Parse(all, lead); o != want || at != lead+len(b) || e != api.OK {
				t.Errorf("Parse of %v behind %d: %v, %d, %d", want, lead, o, at, e)
			}
		}
	}
}

func TestObjectsAreParsedOneBehindTheOther(t *testing.T) { // P4.3
	var all []byte
	l := many()
	for _, o := range l {
		b, _ := object.Bytes(o)
		all = append(all, b...)
	}
	at := 0
	for i, want := range l {
		o, behind, e := object.Parse(all, at)
		if o != want || e != api.OK {
			t.Fatalf("object %d at %d: %v, %d, want %v", i, at, o, e, want)
		}
		at = behind
	}
	if at != len(all) {
		t.Errorf("%d bytes of %d", at, len(all))
	}
}

func TestNoObjectsBytesAreTheBeginningOfOthers(t *testing.T) { // P4.3
	whose := map[string]api.Object{}
	for _, o := range many() {
		b, _ := object.Bytes(o)
		if other, there := whose[string(b)]; there {
			t.Errorf("%v and %v have the same bytes", o, other)
		}
		whose[string(b)] = o
	}
	for s, o := range whose {
		for n := range s {
			if other, there := whose[s[:n]]; there {
				t.Errorf("bytes of %v begin with those of %v", o, other)
			}
		}
	}
}

// checkParsed tells whether what is parsed is right, and has the bytes that were read.
func checkParsed(t *testing.T, b []byte) {
	t.Helper()
	o, at, e := object.Parse(b, 0)
	if e != api.OK {
		if o != (api.Object{}) || at != 0 || e != api.ErrForm && e != api.ErrMore {
			t.Errorf("Parse(%x): %v, %d, %d", b, o, at, e)
		}
		return
	}
	back, e := object.Bytes(o)
	if e != api.OK || !bytes.Equal(back, b[:at]) {
		t.Errorf("Parse(%x): %v, %d, whose bytes are %x, %d", b, o, at, back, e)
	}
}

func TestWhatIsParsedHasTheBytesThatWereRead(t *testing.T) { // P4.2, P4.3, R1
	for _, s := range known() {
		for i := range s {
			for c := range 256 {
				b := []byte(s)
				b[i] = byte(c)
				checkParsed(t, b)
				checkParsed(t, append(b, make([]byte, longest)...))
			}
		}
	}
}

func TestBytesHandedInStayAsTheyAre(t *testing.T) { // R2
	for _, s := range known() {
		b := []byte(s + "\x01\x02\x03\x04")
		was := bytes.Clone(b)
		object.Parse(b[:len(s)], 0)
		object.Parse(b[:len(s)-1], 0)
		if !bytes.Equal(b, was) {
			t.Errorf("Parse wrote into what was handed in: %x, was %x", b, was)
		}
	}
}

func TestAnswersShareNoMemory(t *testing.T) { // R2
	for o, want := range known() {
		b, _ := object.Bytes(o)
		for i := range b {
			b[i] = 0xaa
		}
		if again, _ := object.Bytes(o); string(again) != want {
			t.Errorf("Bytes(%v) again: %x, want %x", o, again, want)
		}
	}
}

func TestCallsAtOneTimeDoNotMeet(t *testing.T) { // R2
	var all sync.WaitGroup
	turned := make([]int, 8)
	for k := range turned {
		all.Go(func() {
			for i := range 2000 {
				want := api.Object{Kind: api.Opt, Dest: k, Height: api.Height{Tau: i, Oid: k, Id: k}, Number: i}
				b, _ := object.Bytes(want)
				if o, at, e := object.Parse(b, 0); o != want || at != longest || e != api.OK || object.Size(o) != at {
					turned[k]++
				}
			}
		})
	}
	all.Wait()
	for k, n := range turned {
		if n != 0 {
			t.Errorf("worker %d: %d answers of others", k, n)
		}
	}
}
