package batch_test

import (
	"bytes"
	"math"
	"slices"
	"strings"
	"sync"
	"testing"

	"thalweg/api"
	"thalweg/batch"
	"thalweg/object"
	"thalweg/serial"
)

// Objects of each kind, and the bytes that they have.
var (
	qry     = api.Object{Kind: api.Qry, Dest: 5}
	updNull = api.Object{Kind: api.Upd, Dest: 6, Height: api.Height{Null: true, Id: 2}}
	upd     = api.Object{Kind: api.Upd, Dest: 63, Height: api.Height{Tau: 258, Oid: 9, R: 1, Delta: -2, Id: 15}}
	clr     = api.Object{Kind: api.Clr, Dest: 7, Level: api.Level{Tau: 1, Oid: 3, R: 1}}
	opt     = api.Object{Kind: api.Opt, Dest: 1, Height: api.Height{Delta: 1, Id: 4}, Number: 258}
)

const (
	qryBytes     = "\x01\x05"
	updNullBytes = "\x02\x06\x00\x02"
	updBytes     = "\x02\x3f\x01" + "\x00\x00\x00\x00\x00\x00\x01\x02" + "\x09\x01" + "\xff\xff\xff\xff\xff\xff\xff\xfe" + "\x0f"
	clrBytes     = "\x03\x07" + "\x00\x00\x00\x00\x00\x00\x00\x01" + "\x03\x01"
	optBytes     = "\x04\x01\x01" + "\x00\x00\x00\x00\x00\x00\x00\x00" + "\x00\x00" + "\x00\x00\x00\x00\x00\x00\x00\x01" + "\x04" + "\x01\x02"
)

// times answers n objects that are like o.
func times(o api.Object, n int) []api.Object { return slices.Repeat([]api.Object{o}, n) }

// queries answers n objects that are the smallest ones, each like none near it.
func queries(n int) []api.Object {
	l := make([]api.Object, n)
	for i := range l {
		l[i] = api.Object{Kind: api.Qry, Dest: i % api.MaxNodes}
	}
	return l
}

// mixed answers n objects of all kinds, in an order that seed turns.
func mixed(n int, seed int) []api.Object {
	kinds := []api.Object{qry, updNull, upd, clr, opt}
	l := make([]api.Object, n)
	for i := range l {
		seed = (seed*75 + 74) % 65537
		l[i] = kinds[seed>>3%len(kinds)]
		l[i].Dest = i % api.MaxNodes
	}
	return l
}

// known are batches, and the bytes that they have.
func known() []struct {
	x api.Batch
	b string
} {
	return []struct {
		x api.Batch
		b string
	}{
		{api.Batch{Number: 7, Objects: []api.Object{{Kind: api.Qry, Dest: 5}, {Kind: api.Qry, Dest: 6}}}, "\x00\x07\x02\x01\x05\x01\x06"},
		{api.Batch{Objects: []api.Object{{Kind: api.Qry}}}, "\x00\x00\x01\x01\x00"},
		{api.Batch{Number: 65535, Objects: []api.Object{qry}}, "\xff\xff\x01" + qryBytes},
		{api.Batch{Number: 255, Objects: []api.Object{updNull}}, "\x00\xff\x01" + updNullBytes},
		{api.Batch{Number: 256, Objects: []api.Object{upd}}, "\x01\x00\x01" + updBytes},
		{api.Batch{Number: 258, Objects: []api.Object{clr}}, "\x01\x02\x01" + clrBytes},
		{api.Batch{Number: 32768, Objects: []api.Object{opt}}, "\x80\x00\x01" + optBytes},
		{api.Batch{Number: 1, Objects: []api.Object{opt, clr, upd, updNull, qry}}, "\x00\x01\x05" + optBytes + clrBytes + updBytes + updNullBytes + qryBytes},
		{api.Batch{Number: 2, Objects: []api.Object{qry, qry, opt}}, "\x00\x02\x03" + qryBytes + qryBytes + optBytes},
		{api.Batch{Number: 3, Objects: times(qry, 32)}, "\x00\x03\x20" + strings.Repeat(qryBytes, 32)},
		{api.Batch{Number: 4, Objects: times(updNull, 31)}, "\x00\x04\x1f" + strings.Repeat(updNullBytes, 31)},
		{fullest(), "\x00\x05\x17" + strings.Repeat(optBytes, 21) + strings.Repeat(qryBytes, 2)},
		{api.Batch{Number: 6, Objects: append(times(upd, 20), times(qry, 12)...)}, "\x00\x06\x20" + strings.Repeat(updBytes, 20) + strings.Repeat(qryBytes, 12)},
	}
}

// fullest answers a batch of 511 bytes. No batch has 512, as all objects have even numbers of bytes.
func fullest() api.Batch {
	return api.Batch{Number: 5, Objects: append(times(opt, 21), times(qry, 2)...)}
}

// wrong are batches that are not right: each of one thing alone.
func wrong() []api.Batch {
	var l []api.Batch
	for _, n := range []int{-1, 65536, 65537, 131071, -65535, math.MinInt, math.MaxInt} {
		l = append(l, api.Batch{Number: n, Objects: times(qry, 1)}, api.Batch{Number: n, Objects: times(opt, 21)})
	}
	for _, n := range []int{33, 34, 64, 255, 256, 257, 1024} {
		l = append(l, api.Batch{Objects: times(qry, n)})
	}
	for _, o := range wrongObjects() {
		l = append(l, api.Batch{Objects: []api.Object{o}}, api.Batch{Objects: []api.Object{o, qry}},
			api.Batch{Objects: []api.Object{qry, o}}, api.Batch{Objects: append(times(qry, 31), o)})
	}
	for _, o := range tooManyBytes() {
		l = append(l, api.Batch{Objects: o})
	}
	return append(l, api.Batch{}, api.Batch{Objects: []api.Object{}}, api.Batch{Number: 65535})
}

// wrongObjects are objects that are not right.
func wrongObjects() []api.Object {
	return []api.Object{
		{},
		{Kind: 5},
		{Kind: -1},
		{Kind: 257},
		{Kind: api.Qry, Dest: 64},
		{Kind: api.Qry, Dest: -1},
		{Kind: api.Qry, Number: 1},
		{Kind: api.Upd, Height: api.Height{Oid: 64}},
		{Kind: api.Clr, Level: api.Level{R: 2}},
		{Kind: api.Opt, Height: api.Height{Null: true}},
		{Kind: api.Opt, Number: 65536},
	}
}

// tooManyBytes are at most 32 objects with more bytes than a batch has, the first ones by as little as there is.
func tooManyBytes() [][]api.Object {
	return [][]api.Object{
		append(times(opt, 21), times(qry, 3)...),
		append(times(qry, 3), times(opt, 21)...),
		append(append(times(upd, 22), times(qry, 7)...), times(updNull, 3)...),
		append(times(opt, 21), clr),
		times(opt, 22),
		times(upd, 24),
		times(upd, 32),
		times(opt, 32),
	}
}

// same tells whether two batches are alike.
func same(a, b api.Batch) bool { return a.Number == b.Number && slices.Equal(a.Objects, b.Objects) }

func TestCheckTakesWhatIsRight(t *testing.T) { // P5.1
	for _, k := range known() {
		if e := batch.Check(k.x); e != api.OK {
			t.Errorf("Check(%v): %d", k.x, e)
		}
	}
	for number := range 65536 {
		if e := batch.Check(api.Batch{Number: number, Objects: times(qry, 1)}); e != api.OK {
			t.Errorf("Check of number %d: %d", number, e)
		}
	}
	for n := 1; n <= 32; n++ {
		if e := batch.Check(api.Batch{Objects: queries(n)}); e != api.OK {
			t.Errorf("Check of %d objects: %d", n, e)
		}
	}
}

func TestWhatIsNotRightIsTurnedAway(t *testing.T) { // P5.1, R1
	for _, x := range wrong() {
		if e := batch.Check(x); e != api.ErrArg {
			t.Errorf("Check(%v): %d, want ErrArg", x, e)
		}
		if b, e := batch.Bytes(x); len(b) != 0 || e != api.ErrArg {
			t.Errorf("Bytes(%v): %x, %d, want none, ErrArg", x, b, e)
		}
	}
}

func TestBytesOfBatches(t *testing.T) { // P5.1
	for _, k := range known() {
		if b, e := batch.Bytes(k.x); string(b) != k.b || e != api.OK {
			t.Errorf("Bytes(%v): %x, %d, want %x", k.x, b, e, k.b)
		}
	}
	if b, _ := batch.Bytes(fullest()); len(b) != 511 {
		t.Errorf("the fullest batch: %d bytes", len(b))
	}
}

func TestParseAnswersTheBatchAndThePlaceBehind(t *testing.T) { // P5.1
	for _, k := range known() {
		if x, at, e := batch.Parse([]byte(k.b), 0); !same(x, k.x) || at != len(k.b) || e != api.OK {
			t.Errorf("Parse(%x): %v, %d, %d, want %v, %d", k.b, x, at, e, k.x, len(k.b))
		}
	}
}

// refused tells whether Parse answers this error, and noughts.
func refused(t *testing.T, b string, at int, want api.Errno) {
	t.Helper()
	if x, behind, e := batch.Parse([]byte(b), at); x.Number != 0 || len(x.Objects) != 0 || behind != 0 || e != want {
		t.Errorf("Parse(%x, %d): %v, %d, %d, want noughts, %d", b, at, x, behind, e, want)
	}
}

func TestParseOfPlacesThatAreNone(t *testing.T) { // P5.1, R1
	for _, at := range []int{-1, 6, 7, math.MinInt, math.MaxInt} {
		refused(t, "\x00\x00\x01\x01\x05", at, api.ErrArg)
	}
	refused(t, "", 1, api.ErrArg)
	refused(t, "", -1, api.ErrArg)
	if x, behind, e := batch.Parse(nil, 1); x.Number != 0 || len(x.Objects) != 0 || behind != 0 || e != api.ErrArg {
		t.Errorf("Parse(nil, 1): %v, %d, %d", x, behind, e)
	}
}

func TestParseOfBytesThatAreLacking(t *testing.T) { // P5.1, R1
	refused(t, "\x00\x00\x01\x01\x05", 5, api.ErrMore)
	refused(t, "\x00\x00\x01\x01\x05", 4, api.ErrMore)
	refused(t, "\x00\x00\x01\x01\x05", 3, api.ErrMore)
	if x, behind, e := batch.Parse(nil, 0); x.Number != 0 || len(x.Objects) != 0 || behind != 0 || e != api.ErrMore {
		t.Errorf("Parse(nil, 0): %v, %d, %d", x, behind, e)
	}
	for _, k := range known() {
		for n := range k.b {
			refused(t, k.b[:n], 0, api.ErrMore)
			refused(t, "\x07\x07"+k.b[:n], 2, api.ErrMore)
			roomy := []byte(k.b)
			if x, behind, e := batch.Parse(roomy[:n], 0); x.Number != 0 || len(x.Objects) != 0 || behind != 0 || e != api.ErrMore {
				t.Errorf("Parse of %d bytes of %x: %v, %d, %d", n, k.b, x, behind, e)
			}
		}
	}
}

func TestParseOfSoManyObjectsAsNoBatchHas(t *testing.T) { // P5.1
	for n := range 256 {
		if n >= 1 && n <= 32 {
			continue
		}
		head := "\x01\x02" + string([]byte{byte(n)})
		for _, rest := range []string{"", "\x01", qryBytes, strings.Repeat(qryBytes, n), "\x09", optBytes, "\x01\x40"} {
			refused(t, head+rest, 0, api.ErrForm)
			refused(t, "\x01"+head+rest, 1, api.ErrForm)
		}
	}
}

func TestParseReadsAsManyObjectsAsAreTold(t *testing.T) { // P5.1
	for n := 1; n <= 32; n++ {
		all := "\x00\x09" + string([]byte{byte(n)}) + strings.Repeat(qryBytes, 40)
		want := api.Batch{Number: 9, Objects: times(qry, n)}
		if x, at, e := batch.Parse([]byte(all), 0); !same(x, want) || at != 3+2*n || e != api.OK {
			t.Errorf("%d objects: %v, %d, %d", n, x, at, e)
		}
		refused(t, all[:3+2*n-1], 0, api.ErrMore)
	}
}

func TestParseOfObjectsThatAreNone(t *testing.T) { // P5.1
	for _, o := range []string{
		"\x00\x05",
		"\x05\x05",
		"\xff\x05",
		"\x01\x40",
		"\x01\xff",
		"\x02\x40\x00\x02",
		"\x02\x05\x02",
		"\x02\x05\x00\x40",
		"\x03\x05" + "\x00\x00\x00\x00\x00\x00\x00\x01" + "\x03\x02",
		"\x04\x05\x00\x02\x00\x00",
	} {
		// The object's error comes ahead of what is lacking, or is wrong, behind it.
		for _, rest := range []string{"", "\x01", qryBytes, qryBytes + qryBytes, "\x09"} {
			refused(t, "\x00\x00\x01"+o+rest, 0, api.ErrForm)
			refused(t, "\x00\x00\x02"+qryBytes+o+rest, 0, api.ErrForm)
			refused(t, "\x00\x00\x20"+o+rest, 0, api.ErrForm)
			refused(t, "\x00\x00\x20"+strings.Repeat(qryBytes, 31)+o+rest, 0, api.ErrForm)
		}
	}
	refused(t, "\x00\x00\x02\x01\x05\x02\x05", 0, api.ErrMore)
	refused(t, "\x00\x00\x03\x01\x05\x01\x06\x02\x05\x00", 0, api.ErrMore)
	refused(t, "\x00\x00\x02\x02\x40\x00\x01\x01", 0, api.ErrForm)
}

func TestParseDoesNotReadBehindTheObjects(t *testing.T) { // P5.1
	for _, rest := range []string{"\x00", "\x09", "\x01\x40", "\xff\xff\xff"} {
		b := "\x00\x07\x02\x01\x05\x01\x06" + rest
		if x, at, e := batch.Parse([]byte(b), 0); x.Number != 7 || len(x.Objects) != 2 || at != 7 || e != api.OK {
			t.Errorf("Parse(%x): %v, %d, %d", b, x, at, e)
		}
	}
}

// spelt answers the bytes that a batch of these objects would have, also where they are too many.
func spelt(l []api.Object) string {
	b := []byte{0, 0, byte(len(l))}
	for _, o := range l {
		s, _ := object.Bytes(o)
		b = append(b, s...)
	}
	return string(b)
}

func TestParseOfMoreBytesThanABatchHas(t *testing.T) { // P5.1, R1
	for _, l := range tooManyBytes() {
		s := spelt(l)
		if len(s) <= api.MaxBatch {
			t.Errorf("%d bytes are not too many", len(s))
		}
		refused(t, s, 0, api.ErrForm)
		refused(t, s+qryBytes, 0, api.ErrForm)
		refused(t, "\x00\x00"+s, 2, api.ErrForm)
		for n := range s {
			refused(t, s[:n], 0, api.ErrMore)
		}
	}
}

func TestPackOfKnownLists(t *testing.T) { // P5.2
	for _, x := range []struct {
		l           []api.Object
		first, most int
		want        []api.Batch
	}{
		{nil, 0, 40, nil},
		{[]api.Object{}, 7, 512, nil},
		{queries(1), 0, 40, []api.Batch{{Number: 0, Objects: queries(1)}}},
		{queries(1), 65535, 512, []api.Batch{{Number: 65535, Objects: queries(1)}}},
		{queries(18), 3, 40, []api.Batch{{Number: 3, Objects: queries(18)}}},
		{queries(19), 3, 40, []api.Batch{{Number: 3, Objects: queries(18)}, {Number: 4, Objects: queries(19)[18:]}}},
		{queries(19), 3, 41, []api.Batch{{Number: 3, Objects: queries(19)}}},
		{queries(32), 9, 67, []api.Batch{{Number: 9, Objects: queries(32)}}},
		{queries(32), 9, 66, []api.Batch{{Number: 9, Objects: queries(31)}, {Number: 10, Objects: queries(32)[31:]}}},
		{queries(33), 65535, 512, []api.Batch{{Number: 65535, Objects: queries(32)}, {Number: 0, Objects: queries(33)[32:]}}},
		{queries(64), 65535, 512, []api.Batch{{Number: 65535, Objects: queries(32)}, {Number: 0, Objects: queries(64)[32:]}}},
		{[]api.Object{opt, qry, opt}, 0, 40, []api.Batch{{Number: 0, Objects: []api.Object{opt, qry}}, {Number: 1, Objects: []api.Object{opt}}}},
		{[]api.Object{opt, opt, qry}, 0, 50, []api.Batch{{Number: 0, Objects: []api.Object{opt}}, {Number: 1, Objects: []api.Object{opt, qry}}}},
		{[]api.Object{opt, opt, qry}, 0, 51, []api.Batch{{Number: 0, Objects: []api.Object{opt, opt}}, {Number: 1, Objects: []api.Object{qry}}}},
		{[]api.Object{opt, clr, qry, clr}, -2, 40, []api.Batch{{Number: 65534, Objects: []api.Object{opt, clr}}, {Number: 65535, Objects: []api.Object{qry, clr}}}},
		{fullest().Objects, 5, 512, []api.Batch{fullest()}},
		{fullest().Objects, 5, 511, []api.Batch{fullest()}},
		{fullest().Objects, 5, 510, []api.Batch{{Number: 5, Objects: fullest().Objects[:22]}, {Number: 6, Objects: times(qry, 1)}}},
		{tooManyBytes()[0], 5, 512, []api.Batch{fullest(), {Number: 6, Objects: times(qry, 1)}}},
	} {
		if l, e := batch.Pack(x.l, x.first, x.most); !slices.EqualFunc(l, x.want, same) || e != api.OK {
			t.Errorf("Pack(%v, %d, %d): %v, %d, want %v", x.l, x.first, x.most, l, e, x.want)
		}
	}
}

func TestPackTakesAnyFirst(t *testing.T) { // P5.2, R5
	for _, x := range []struct{ first, want int }{
		{0, 0},
		{1, 1},
		{65534, 65534},
		{65535, 65535},
		{65536, 0},
		{65537, 1},
		{-1, 65535},
		{-65535, 1},
		{-65536, 0},
		{-65537, 65535},
		{1 << 40, 0},
		{1<<40 + 77, 77},
		{math.MaxInt, 65535},
		{math.MinInt, 0},
		{math.MinInt + 5, 5},
	} {
		l, e := batch.Pack(times(opt, 4), x.first, 40)
		if len(l) != 4 || e != api.OK {
			t.Fatalf("Pack from %d: %v, %d", x.first, l, e)
		}
		for i, y := range l {
			if y.Number != (x.want+i)%65536 {
				t.Errorf("Pack from %d: batch %d has the number %d", x.first, i, y.Number)
			}
		}
	}
}

func TestPackTurnsAwayWhatMayNotBe(t *testing.T) { // P5.2, R1
	for _, x := range []struct {
		l    []api.Object
		most int
		want api.Errno
	}{
		{nil, 39, api.ErrArg},
		{nil, 513, api.ErrArg},
		{queries(3), 39, api.ErrArg},
		{queries(3), 513, api.ErrArg},
		{queries(3), 0, api.ErrArg},
		{queries(3), -40, api.ErrArg},
		{queries(3), math.MinInt, api.ErrArg},
		{queries(3), math.MaxInt, api.ErrArg},
		{queries(1025), 39, api.ErrArg},
		{queries(1025), 513, api.ErrArg},
		{queries(1025), 40, api.ErrLong},
		{queries(1025), 512, api.ErrLong},
		{times(opt, 1025), 512, api.ErrLong},
		{queries(5000), 512, api.ErrLong},
	} {
		if l, e := batch.Pack(x.l, 0, x.most); len(l) != 0 || e != x.want {
			t.Errorf("Pack of %d, of at most %d: %v, %d, want none, %d", len(x.l), x.most, l, e, x.want)
		}
	}
	for _, o := range wrongObjects() {
		for _, n := range []int{0, 1, 31, 32, 1023, 1024, 3000} {
			for _, l := range [][]api.Object{append(queries(n), o), append([]api.Object{o}, queries(n)...)} {
				if got, e := batch.Pack(l, 0, 512); len(got) != 0 || e != api.ErrArg {
					t.Errorf("Pack of %d and %v: %v, %d, want none, ErrArg", n, o, got, e)
				}
			}
		}
	}
}

func TestPackTakesAsMuchAsItMay(t *testing.T) { // P5.2
	for _, x := range []struct {
		o          api.Object
		most, want int
	}{
		{qry, 40, 57},
		{qry, 67, 32},
		{qry, 512, 32},
		{clr, 40, 342},
		{opt, 40, 1024},
		{opt, 512, 49},
	} {
		if l, e := batch.Pack(times(x.o, 1024), 0, x.most); len(l) != x.want || e != api.OK {
			t.Errorf("Pack of 1024 %v, of at most %d: %d batches, %d, want %d", x.o, x.most, len(l), e, x.want)
		}
	}
}

// objectsOf answers the objects of batches, one behind the other.
func objectsOf(l []api.Batch) []api.Object {
	var all []api.Object
	for _, x := range l {
		all = append(all, x.Objects...)
	}
	return all
}

// checkPacked tells whether l are batches of these objects, each with as many as fit.
func checkPacked(t *testing.T, l []api.Batch, of []api.Object, first int, most int) {
	t.Helper()
	if !slices.Equal(objectsOf(l), of) {
		t.Fatalf("other objects, or in another order, of at most %d", most)
	}
	for i, x := range l {
		b, e := batch.Bytes(x)
		if batch.Check(x) != api.OK || e != api.OK || len(b) > most {
			t.Errorf("batch %d, of at most %d: %d bytes, %d", i, most, len(b), e)
		}
		if x.Number != first {
			t.Errorf("batch %d has the number %d, want %d", i, x.Number, first)
		}
		first = serial.Next(first)
		if i+1 < len(l) && len(x.Objects) < 32 && len(b)+object.Size(l[i+1].Objects[0]) <= most {
			t.Errorf("batch %d, of at most %d, of %d bytes: there is room for %v", i, most, len(b), l[i+1].Objects[0])
		}
	}
}

func TestBatchesHaveAllObjectsInTheirOrder(t *testing.T) { // P5.2, P5.3
	for seed, n := range []int{0, 1, 2, 5, 31, 32, 33, 100, 1024} {
		l := mixed(n, seed+3)
		was := n
		for most := 40; most <= 512; most++ {
			packed, e := batch.Pack(l, 65530, most)
			if e != api.OK {
				t.Fatalf("Pack of %d, of at most %d: %d", n, most, e)
			}
			checkPacked(t, packed, l, 65530, most)
			if len(packed) > was {
				t.Errorf("Pack of %d, of at most %d: %d batches, with less %d", n, most, len(packed), was)
			}
			was = len(packed)
		}
	}
}

func TestWhatHasBytesIsParsedAsItself(t *testing.T) { // P5.3
	for _, k := range known() {
		for lead := range 4 {
			all := strings.Repeat("\x01", lead) + k.b + "\xff\x01"
			if x, at, e := batch.Parse([]byte(all), lead); !same(x, k.x) || at != lead+len(k.b) || e != api.OK {
				t.Errorf("Parse of %v behind %d: %v, %d, %d", k.x, lead, x, at, e)
			}
		}
	}
	for seed := range 50 {
		packed, _ := batch.Pack(mixed(400, seed), seed*1311, 40+seed*9)
		var all []byte
		for _, x := range packed {
			b, _ := batch.Bytes(x)
			all = append(all, b...)
		}
		at := 0
		for i, want := range packed {
			x, behind, e := batch.Parse(all, at)
			if !same(x, want) || e != api.OK {
				t.Fatalf("batch %d at %d: %v, %d, want %v", i, at, x, e, want)
			}
			at = behind
		}
		if at != len(all) {
			t.Errorf("%d bytes of %d", at, len(all))
		}
	}
}

// checkParsed tells whether what is parsed is right, and has the bytes that were read.
func checkParsed(t *testing.T, b []byte) {
	t.Helper()
	x, at, e := batch.Parse(b, 0)
	if e != api.OK {
		if x.Number != 0 || len(x.Objects) != 0 || at != 0 || e != api.ErrForm && e != api.ErrMore {
			t.Errorf("Parse(%x): %v, %d, %d", b, x, at, e)
		}
		return
	}
	back, e := batch.Bytes(x)
	if e != api.OK || !bytes.Equal(back, b[:at]) {
		t.Errorf("Parse(%x): %v, %d, whose bytes are %x, %d", b, x, at, back, e)
	}
}

func TestWhatIsParsedHasTheBytesThatWereRead(t *testing.T) { // P5.1, P5.3, R1
	for _, k := range known() {
		for i := range min(len(k.b), 40) {
			for c := range 256 {
				b := []byte(k.b)
				b[i] = byte(c)
				checkParsed(t, b)
				checkParsed(t, append(b, strings.Repeat(qryBytes, 32)...))
			}
		}
	}
}

func TestWhatIsHandedInStaysAsItIs(t *testing.T) { // R2
	room := mixed(200, 7)
	was := slices.Clone(room)
	batch.Pack(room[:100], 0, 40)
	batch.Pack(room[:100], 0, 512)
	batch.Pack(room[:0], 0, 512)
	batch.Check(api.Batch{Objects: room[:20]})
	batch.Bytes(api.Batch{Objects: room[:20]})
	if !slices.Equal(room, was) {
		t.Errorf("objects that were handed in are others")
	}
	for _, k := range known() {
		b := []byte(k.b + "\x01\x02\x03\x04")
		old := bytes.Clone(b)
		batch.Parse(b[:len(k.b)], 0)
		batch.Parse(b[:len(k.b)-1], 0)
		if !bytes.Equal(b, old) {
			t.Errorf("Parse wrote into what was handed in: %x, was %x", b, old)
		}
	}
}

func TestAnswersShareNoMemory(t *testing.T) { // R2
	l := mixed(100, 9)
	was := slices.Clone(l)
	packed, _ := batch.Pack(l, 0, 40)
	kept, _ := batch.Pack(l, 0, 40)
	for _, x := range packed {
		// What is put behind one batch's objects is not to be seen in the next one's.
		_ = append(x.Objects, api.Object{Kind: 9})
	}
	if !slices.EqualFunc(packed, kept, same) {
		t.Errorf("batches share memory with one another")
	}
	for _, x := range packed {
		clear(x.Objects)
	}
	if !slices.Equal(l, was) || !slices.Equal(objectsOf(kept), was) {
		t.Errorf("batches share memory with what was handed in, or with other answers")
	}
	for _, k := range known() {
		b, _ := batch.Bytes(k.x)
		x, _, _ := batch.Parse(b, 0)
		for i := range b {
			b[i] = 0xaa
		}
		if again, _ := batch.Bytes(k.x); string(again) != k.b || !same(x, k.x) {
			t.Errorf("Bytes(%v) again: %x, want %x; parsed %v", k.x, again, k.b, x)
		}
	}
}

func TestCallsAtOneTimeDoNotMeet(t *testing.T) { // R2
	var all sync.WaitGroup
	turned := make([]int, 8)
	for k := range turned {
		all.Go(func() {
			l := mixed(60, k)
			for i := range 200 {
				packed, _ := batch.Pack(l, i, 40+k)
				for _, want := range packed {
					b, _ := batch.Bytes(want)
					if x, at, e := batch.Parse(b, 0); !same(x, want) || at != len(b) || e != api.OK {
						turned[k]++
					}
				}
				if !slices.Equal(objectsOf(packed), l) {
					turned[k]++
				}
			}
		})
	}
	all.Wait()
	for k, n := range turned {
		if n != 0 {
			t.Errorf("worker %d: %d answers of others", k, n)
		}
	}
}
