package reader_test

import (
	"bytes"
	"math"
	"testing"

	"thalweg/api"
	"thalweg/reader"
	"thalweg/wire"
)

// pair is read as two bytes.
type pair struct{ a, b int }

// parsePair refuses a pair whose first one is not below its second one.
func parsePair(b []byte, at int) (pair, int, api.Errno) {
	r := reader.New(at)
	p := pair{a: r.Number(b, 1), b: r.Number(b, 1)}
	return reader.Done(r, p, p.a < p.b)
}

func TestNumbersAreReadOneBehindTheOther(t *testing.T) {
	b := append([]byte{9, 1, 2, 3}, wire.Int(-5)...)
	b = append(b, 4, 7, 0xff)
	r := reader.New(1)
	if v := r.Number(b, 1); v != 1 {
		t.Errorf("first: %d", v)
	}
	if v := r.Number(b, 2); v != 0x0203 {
		t.Errorf("second: %d", v)
	}
	if v := r.Int(b); v != -5 {
		t.Errorf("third: %d", v)
	}
	p := reader.Next(r, b, parsePair)
	if v, at, e := reader.Done(r, p, true); v != (pair{4, 7}) || at != len(b)-1 || e != api.OK {
		t.Errorf("fourth: %v, %d, %d", v, at, e)
	}
}

func TestTheFirstErrorStays(t *testing.T) {
	b := []byte{1, 2, 5, 3, 8, 9}
	for _, x := range []struct {
		at   int
		read func(r *reader.Reader)
		want api.Errno
	}{
		{-1, func(r *reader.Reader) { r.Number(b, 1) }, api.ErrArg},
		{7, func(r *reader.Reader) { r.Int(b) }, api.ErrArg},
		{math.MaxInt, func(r *reader.Reader) { r.Number(b, 7) }, api.ErrArg},
		{0, func(r *reader.Reader) { r.Number(b, 0) }, api.ErrArg},
		{6, func(r *reader.Reader) { r.Number(b, 1) }, api.ErrMore},
		{0, func(r *reader.Reader) { r.Int(b) }, api.ErrMore},
		{0, func(r *reader.Reader) { r.Number(b, 4); r.Number(b, 3) }, api.ErrMore},
		{2, func(r *reader.Reader) { reader.Next(r, b, parsePair) }, api.ErrForm},
		{0, func(r *reader.Reader) { r.Need(false) }, api.ErrForm},
		{0, func(r *reader.Reader) { r.Need(true); r.Need(false); r.Int(b) }, api.ErrForm},
		{0, func(r *reader.Reader) { r.Int(b); r.Need(false) }, api.ErrMore},
	} {
		r := reader.New(x.at)
		x.read(r)
		if n, i, p := r.Number(b, 1), r.Int(b), reader.Next(r, b, parsePair); n != 0 || i != 0 || p != (pair{}) {
			t.Errorf("from %d, behind error %d: %d, %d, %v", x.at, x.want, n, i, p)
		}
		r.Need(false)
		for _, right := range []bool{true, false} {
			if v, at, e := reader.Done(r, 77, right); v != 0 || at != 0 || e != x.want {
				t.Errorf("from %d: %d, %d, %d, want noughts, %d", x.at, v, at, e, x.want)
			}
		}
	}
}

func TestNothingIsReadBehindAnError(t *testing.T) {
	r := reader.New(0)
	r.Need(false)
	reader.Next(r, []byte{1}, func(b []byte, at int) (int, int, api.Errno) {
		t.Errorf("read from %d on", at)
		return 0, 0, api.OK
	})
}

func TestWhatIsNotRightIsOfAnotherForm(t *testing.T) {
	b := []byte{7, 4, 4, 7}
	for _, x := range []struct {
		at   int
		want pair
		e    api.Errno
	}{
		{0, pair{}, api.ErrForm},
		{1, pair{}, api.ErrForm},
		{2, pair{4, 7}, api.OK},
		{3, pair{}, api.ErrMore},
	} {
		behind := 0
		if x.e == api.OK {
			behind = x.at + 2
		}
		if v, at, e := parsePair(b, x.at); v != x.want || at != behind || e != x.e {
			t.Errorf("from %d: %v, %d, %d", x.at, v, at, e)
		}
	}
	if !bytes.Equal(b, []byte{7, 4, 4, 7}) {
		t.Errorf("%x", b)
	}
}
