package views_test

import (
	"cmp"
	"math"
	"slices"
	"sync"
	"testing"

	"thalweg/api"
	"thalweg/views"
)

// row is a view of id at a height of its own.
func row(id, tau, oid, r, delta int) api.View {
	return api.View{Id: id, Height: api.Height{Tau: tau, Oid: oid, R: r, Delta: delta, Id: id}}
}

// at is a view of id at the level of noughts.
func at(id, delta int) api.View { return row(id, 0, 0, 0, delta) }

// none is a view of id of which nothing is known.
func none(id int) api.View { return api.View{Id: id, Height: api.Height{Null: true, Id: id}} }

// all has a view of each node there is, every fifth one Null, of no order, some of one level.
func all() []api.View {
	var l []api.View
	for id := range api.MaxNodes {
		v := row(id, id*37%11, id*29%7, id*13%2, id*41%17-8)
		if id%5 == 3 {
			v = none(id)
		}
		l = append(l, v)
	}
	return l
}

// right are views that are right.
func right() [][]api.View {
	return [][]api.View{
		nil, {}, {at(0, 0)}, {at(63, 0)}, {none(0)}, {none(63)}, {at(5, 2)}, {at(0, 0), at(63, 0)}, {none(0), none(1), none(62), none(63)},
		{at(1, 2), at(3, 1), none(5)},
		{at(7, -1), at(8, -2), at(9, -3)},
		{row(2, api.MaxTau, 63, 1, api.MaxDelta), row(4, api.MaxTau, 63, 1, -api.MaxDelta), row(6, 0, 63, 0, -api.MaxDelta), row(8, api.MaxTau, 0, 0, 0), row(10, 1, 0, 1, api.MaxDelta)},
		all(), all()[:63], all()[1:],
	}
}

// wrongHeights are heights of id that are not right: each of one thing alone.
func wrongHeights(id int) []api.Height {
	l := []api.Height{
		{Id: id, Tau: -1}, {Id: id, Tau: api.MaxTau + 1}, {Id: id, Oid: -1}, {Id: id, Oid: 64}, {Id: id, R: -1}, {Id: id, R: 2},
		{Id: id, Delta: api.MaxDelta + 1}, {Id: id, Delta: -api.MaxDelta - 1},
		{Id: id, Null: true, Tau: 1}, {Id: id, Null: true, Oid: 1}, {Id: id, Null: true, R: 1}, {Id: id, Null: true, Delta: 1}, {Id: id, Null: true, Delta: -1},
	}
	for _, n := range []int{math.MinInt, math.MaxInt} {
		l = append(l, api.Height{Id: id, Tau: n}, api.Height{Id: id, Oid: n}, api.Height{Id: id, R: n}, api.Height{Id: id, Delta: n}, api.Height{Id: id, Null: true, Delta: n})
	}
	return l
}

// noNodes are numbers that no node has.
func noNodes() []int {
	return []int{-1, -2, -64, -256, math.MinInt, 64, 65, 128, 255, 256, 1 << 32, math.MaxInt}
}

// wrong are views that are not right: each of one thing alone.
func wrong() [][]api.View {
	l := [][]api.View{
		{{Id: 1}}, {{Height: api.Height{Id: 1}}}, {{Id: 1, Height: none(2).Height}}, {at(1, 0), {Id: 2, Height: at(3, 0).Height}, at(4, 0)},
		{at(5, 0), at(5, 0)}, {none(0), none(0)}, {none(63), at(63, 0)}, {at(5, 0), at(4, 0)}, {at(63, 0), at(0, 0)},
		{at(1, 0), at(2, 0), at(2, 1)}, {at(1, 0), at(1, 1), at(2, 0)}, {at(1, 0), at(3, 0), at(2, 0)}, {at(2, 0), at(1, 0), at(3, 0)}, {at(1, 0), at(2, 0), at(1, 0)},
		append(all(), at(63, 0)), append(all(), at(64, 0)), append([]api.View{at(0, 0)}, all()...),
	}
	for _, h := range wrongHeights(5) {
		v := api.View{Id: 5, Height: h}
		l = append(l, []api.View{v}, []api.View{v, at(6, 0)}, []api.View{at(4, 0), v}, []api.View{at(4, 0), v, none(6)})
	}
	for _, id := range noNodes() {
		l = append(l, []api.View{at(id, 0)}, []api.View{none(id)})
		if id < 0 {
			l = append(l, []api.View{at(id, 0), at(5, 0)})
		} else {
			l = append(l, []api.View{at(5, 0), none(id)})
		}
	}
	return l
}

// loose are views of which some are not right, as calls that name no error take them: Ids that fall or come twice, heights of other Ids, heights that are not right.
func loose() [][]api.View {
	l := [][]api.View{
		{at(9, 1), at(2, 3), at(9, -4), none(2), at(0, 1), at(2, 1)},
		{{Id: 4, Height: at(7, 2).Height}, {Id: 3, Height: at(7, 2).Height}, {Id: 7, Height: at(3, 2).Height}, {Id: 4, Height: at(7, 2).Height}, {Id: 8, Height: none(2).Height}},
		{{Id: -1, Height: at(1, 2).Height}, {Id: math.MaxInt, Height: at(1, 1).Height}, {Id: math.MinInt, Height: at(0, 2).Height}, {Id: 64, Height: at(1, 2).Height}},
	}
	return append(l, wrong()...)
}

// owns are heights to hold views against: some that are told, some that are not.
func owns() []api.Height {
	l := []api.Height{{Null: true}, {Null: true, Id: 4}, {}, {Id: 4}, {Id: 63}, {Delta: 2, Id: 4}, {Delta: 2, Id: 7}, {Delta: -3, Id: 2}, {R: 1}, {Oid: 1}, {Oid: 3, R: 1, Delta: 5, Id: 9}, {Tau: 1}, {Tau: 5, Oid: 4, Delta: 3, Id: 20},
		{Delta: -api.MaxDelta}, {Tau: api.MaxTau, Oid: 63, R: 1, Delta: api.MaxDelta, Id: 63}, {Tau: api.MaxTau, Oid: 63, R: 1, Delta: api.MaxDelta, Id: 2}, {Id: -1}, {Id: 64}}
	return append(l, wrongHeights(5)...)
}

// told tells whether h is right and not Null, in words of its own.
func told(h api.Height) bool {
	within := func(n, low, high int) bool { return low <= n && n <= high }
	return !h.Null && within(h.Tau, 0, api.MaxTau) && within(h.Oid, 0, 63) && within(h.R, 0, 1) && within(h.Delta, -api.MaxDelta, api.MaxDelta) && within(h.Id, 0, 63)
}

// less tells whether a is less than b, in words of its own.
func less(a, b api.Height) bool {
	return told(a) && told(b) && slices.Compare([]int{a.Tau, a.Oid, a.R, a.Delta, a.Id}, []int{b.Tau, b.Oid, b.R, b.Delta, b.Id}) < 0
}

// upwards are the Ids of the views of l that are wanted, as one picks the lowest one that is left again and again.
func upwards(l []api.View, wanted func(h api.Height) bool) []int {
	var ids []int
	left := slices.DeleteFunc(slices.Clone(l), func(v api.View) bool { return !wanted(v.Height) })
	for len(left) > 0 {
		low := 0
		for i := range left {
			if less(left[i].Height, left[low].Height) {
				low = i
			}
		}
		ids = append(ids, left[low].Id)
		left = slices.Delete(left, low, low+1)
	}
	return ids
}

// isBelow and isAbove ask for the Ids that are below own, and above.
func isBelow(t *testing.T, l []api.View, own api.Height, want ...int) {
	t.Helper()
	if got := views.Below(l, own); !slices.Equal(got, want) {
		t.Errorf("Below(%v, %v): %v, want %v", l, own, got, want)
	}
}

func isAbove(t *testing.T, l []api.View, own api.Height, want ...int) {
	t.Helper()
	if got := views.Above(l, own); !slices.Equal(got, want) {
		t.Errorf("Above(%v, %v): %v, want %v", l, own, got, want)
	}
}

// isSet asks for Set's answer, and that l is as it was.
func isSet(t *testing.T, l []api.View, v api.View, want []api.View) {
	t.Helper()
	before := slices.Clone(l)
	got, e := views.Set(l, v.Id, v.Height)
	if !slices.Equal(got, want) || e != api.OK {
		t.Errorf("Set(%v, %v): %v, %d, want %v", l, v, got, e, want)
	}
	if !slices.Equal(l, before) {
		t.Errorf("Set of %v turned it to %v", before, l)
	}
}

func TestCheckTakesWhatIsRight(t *testing.T) { // P12.1
	for _, l := range right() {
		if e := views.Check(l); e != api.OK {
			t.Errorf("Check(%v): %d", l, e)
		}
	}
}

func TestCheckTurnsAwayWhatIsNot(t *testing.T) { // P12.1, R1
	for _, l := range loose() {
		if e := views.Check(l); e != api.ErrArg {
			t.Errorf("Check(%v): %d, want ErrArg", l, e)
		}
	}
}

func TestGet(t *testing.T) { // P12.1
	for _, l := range append(right(), loose()...) {
		for id := -70; id < 140; id++ {
			i := slices.IndexFunc(l, func(v api.View) bool { return v.Id == id })
			h, ok := views.Get(l, id)
			if i < 0 && (h != (api.Height{}) || ok) {
				t.Errorf("Get(%v, %d): %v, %v, want none", l, id, h, ok)
			}
			if i >= 0 && (h != l[i].Height || !ok) {
				t.Errorf("Get(%v, %d): %v, %v, want %v", l, id, h, ok, l[i].Height)
			}
		}
	}
}

func TestGetOfIdsThatNoNodeHas(t *testing.T) { // P12.1, R1
	for _, id := range noNodes() {
		if h, ok := views.Get(all(), id); h != (api.Height{}) || ok {
			t.Errorf("Get(%d): %v, %v", id, h, ok)
		}
		l := []api.View{at(1, 0), {Id: id, Height: at(9, 3).Height}, {Id: id}} // Get asks not whether they are right
		if h, ok := views.Get(l, id); h != at(9, 3).Height || !ok {
			t.Errorf("Get(%d): %v, %v", id, h, ok)
		}
	}
	if h, ok := views.Get([]api.View{none(0)}, 0); h != none(0).Height || !ok {
		t.Errorf("Get of Null: %v, %v", h, ok)
	}
	if h, ok := views.Get([]api.View{at(0, 0)}, 0); h != (api.Height{}) || !ok {
		t.Errorf("Get of noughts: %v, %v, want true", h, ok)
	}
}

func TestSetPutsOneMore(t *testing.T) { // P12.1
	l := []api.View{at(2, 7), none(5), row(9, 1, 2, 1, 4)}
	for _, id := range []int{0, 1, 3, 4, 6, 7, 8, 10, 62, 63} {
		i, _ := slices.BinarySearch([]int{2, 5, 9}, id)
		for _, v := range []api.View{at(id, 3), none(id), row(id, api.MaxTau, 63, 1, -api.MaxDelta)} {
			isSet(t, l, v, slices.Insert(slices.Clone(l), i, v))
			isSet(t, nil, v, []api.View{v})
			isSet(t, []api.View{}, v, []api.View{v})
		}
	}
}

func TestSetInPlaceOfOne(t *testing.T) { // P12.1
	for _, l := range right() {
		for i, x := range l {
			for _, v := range []api.View{at(x.Id, 3), none(x.Id), row(x.Id, api.MaxTau, 63, 1, -api.MaxDelta), x} {
				want := slices.Clone(l)
				want[i] = v
				isSet(t, l, v, want)
			}
		}
	}
}

func TestSetTurnsAwayWhatMayNotBe(t *testing.T) { // P12.1, R1
	set := func(l []api.View, id int, h api.Height) {
		before := slices.Clone(l)
		if got, e := views.Set(l, id, h); len(got) != 0 || e != api.ErrArg {
			t.Errorf("Set(%v, %d, %v): %v, %d, want ErrArg", l, id, h, got, e)
		}
		if !slices.Equal(l, before) {
			t.Errorf("Set of %v turned it to %v", before, l)
		}
	}
	for _, l := range loose() { // also one that would be right behind it
		for _, v := range []api.View{at(0, 1), none(5), at(5, 1), at(63, 0), at(64, 0)} {
			set(l, v.Id, v.Height)
		}
	}
	for _, l := range right() {
		for _, h := range wrongHeights(5) {
			set(l, 5, h)
		}
		for _, id := range noNodes() {
			set(l, id, at(id, 0).Height)
			set(l, id, none(id).Height)
			set(l, 5, at(id, 0).Height)
			set(l, id, at(5, 0).Height)
		}
		set(l, 5, at(6, 0).Height)
		set(l, 6, none(5).Height)
		set(l, 0, none(63).Height)
	}
}

func TestDrop(t *testing.T) { // P12.1
	for _, l := range right() {
		before := slices.Clone(l)
		for id := range api.MaxNodes {
			i := slices.IndexFunc(l, func(v api.View) bool { return v.Id == id })
			got, e := views.Drop(l, id)
			if i < 0 && (len(got) != 0 || e != api.ErrNone) {
				t.Errorf("Drop(%v, %d): %v, %d, want ErrNone", l, id, got, e)
			}
			if i >= 0 && (!slices.Equal(got, slices.Delete(slices.Clone(l), i, i+1)) || e != api.OK) {
				t.Errorf("Drop(%v, %d): %v, %d", l, id, got, e)
			}
			if !slices.Equal(l, before) {
				t.Errorf("Drop of %v turned it to %v", before, l)
			}
		}
		for _, id := range noNodes() {
			if got, e := views.Drop(l, id); len(got) != 0 || e != api.ErrNone {
				t.Errorf("Drop(%v, %d): %v, %d, want ErrNone", l, id, got, e)
			}
		}
	}
}

func TestDropOfViewsThatAreNotRight(t *testing.T) { // P12.1, R1
	for _, l := range loose() {
		for _, id := range append(noNodes(), 0, 1, 2, 4, 5, 9, 63) { // of one that is there, and of none: ErrArg is named first
			if got, e := views.Drop(l, id); len(got) != 0 || e != api.ErrArg {
				t.Errorf("Drop(%v, %d): %v, %d, want ErrArg", l, id, got, e)
			}
		}
	}
}

func TestExamplesOfTheChapter(t *testing.T) { // P12.2
	isBelow(t, []api.View{at(1, 2), at(3, 1), none(5)}, at(4, 3).Height, 3, 1)
	isAbove(t, []api.View{at(1, 2), at(3, 1), none(5)}, at(4, 3).Height)
	isAbove(t, []api.View{at(1, 2), at(3, 1), none(5)}, at(4, 0).Height, 3, 1)
}

func TestBelowAndAboveByTheFirstThatIsNotAlike(t *testing.T) { // P12.2
	up := []api.View{row(9, 0, 0, 0, -1), row(2, 0, 0, 0, 0), row(8, 0, 0, 0, 0), row(7, 0, 0, 0, 1), row(6, 0, 0, 1, -5), row(5, 0, 1, 0, -6), row(4, 1, 0, 0, -7), row(3, 1, 0, 0, 2), row(1, 1, 0, 1, 0), row(0, 2, 0, 0, 0)}
	var ids []int
	for _, v := range up {
		ids = append(ids, v.Id)
	}
	l := slices.SortedFunc(slices.Values(up), func(a, b api.View) int { return a.Id - b.Id })
	for i, v := range up { // it is neither below nor above itself
		isBelow(t, l, v.Height, ids[:i]...)
		isAbove(t, l, v.Height, ids[i+1:]...)
	}
}

func TestAlikeOnesAsTheyStand(t *testing.T) { // P12.2
	var l []api.View
	seed := uint32(3)
	for i := range 300 { // many of each of five heights, as they come
		seed = seed*1664525 + 1013904223
		l = append(l, api.View{Id: i * 7 % 300, Height: at(7, int(seed>>8)%5-2).Height})
	}
	for _, own := range []api.Height{at(6, 0).Height, at(7, 0).Height, at(8, 0).Height, at(8, 2).Height} {
		isBelow(t, l, own, upwards(l, func(h api.Height) bool { return less(h, own) })...)
		isAbove(t, l, own, upwards(l, func(h api.Height) bool { return less(own, h) })...)
	}
	l = []api.View{{Id: 30, Height: at(7, 2).Height}, {Id: 10, Height: at(7, 2).Height}, {Id: 20, Height: at(7, 2).Height}}
	isBelow(t, l, at(7, 2).Height)
	isAbove(t, l, at(7, 2).Height)
	isBelow(t, l, at(8, 2).Height, 30, 10, 20)
	isAbove(t, l, at(6, 2).Height, 30, 10, 20)
}

func TestBelowAndAboveOfAnyViews(t *testing.T) { // P12.2, R1
	for _, l := range append(right(), loose()...) {
		before := slices.Clone(l)
		for _, own := range owns() {
			isBelow(t, l, own, upwards(l, func(h api.Height) bool { return less(h, own) })...)
			isAbove(t, l, own, upwards(l, func(h api.Height) bool { return less(own, h) })...)
			if !told(own) {
				isBelow(t, l, own)
				isAbove(t, l, own)
			}
		}
		if !slices.Equal(l, before) {
			t.Errorf("%v became %v", before, l)
		}
	}
}

func TestBelowTellsTheIdOfTheView(t *testing.T) { // P12.2
	l := []api.View{{Id: 100, Height: at(3, 5).Height}, {Id: -7, Height: at(2, 5).Height}}
	isBelow(t, l, at(0, 6).Height, -7, 100)
	isAbove(t, l, at(0, 5).Height, -7, 100)
	isAbove(t, l, at(2, 5).Height, 100)
}

// forgets asks for Forget's answer, and that l is as it was.
func forgets(t *testing.T, l []api.View, v api.Level, keep int, want []api.View) {
	t.Helper()
	before := slices.Clone(l)
	if got := views.Forget(l, v, keep); !slices.Equal(got, want) {
		t.Errorf("Forget(%v, %v, %d): %v, want %v", l, v, keep, got, want)
	}
	if !slices.Equal(l, before) {
		t.Errorf("Forget of %v turned it to %v", before, l)
	}
}

func TestForget(t *testing.T) { // P12.3
	l := []api.View{row(1, 5, 2, 1, 0), row(2, 5, 2, 0, 0), row(3, 5, 2, 1, -4), row(4, 5, 1, 1, 0), none(5), row(6, 4, 2, 1, 0), row(7, 5, 2, 1, 9), at(8, 1)}
	v := api.Level{Tau: 5, Oid: 2, R: 1}
	forgotten := func(ids ...int) []api.View {
		want := slices.Clone(l)
		for _, id := range ids {
			want[id-1] = none(id)
		}
		return want
	}
	forgets(t, l, v, 1, forgotten(3, 7))
	forgets(t, l, v, 3, forgotten(1, 7))
	forgets(t, l, v, 7, forgotten(1, 3))
	for _, keep := range append(noNodes(), 0, 2, 4, 5, 6, 8, 9) {
		forgets(t, l, v, keep, forgotten(1, 3, 7))
	}
	forgets(t, l, api.Level{}, 0, forgotten(8))
	forgets(t, l, api.Level{}, 8, l)
	forgets(t, l, api.Level{Tau: 5, Oid: 2}, 0, forgotten(2))
	forgets(t, l, api.Level{Tau: 5, Oid: 1, R: 1}, 0, forgotten(4))
	forgets(t, l, api.Level{Tau: 4, Oid: 2, R: 1}, 0, forgotten(6))
	forgets(t, forgotten(1, 3, 7), v, 0, forgotten(1, 3, 7))
	forgets(t, nil, v, 0, nil)
	forgets(t, nil, api.Level{}, 0, nil)
}

func TestForgetAtLevelsThatNoneIsAt(t *testing.T) { // P12.3, R1
	for _, v := range []api.Level{{Tau: -1}, {Oid: -1}, {R: -1}, {Oid: 64}, {R: 2}, {Tau: api.MaxTau}, {Tau: math.MaxInt}, {Tau: math.MinInt, Oid: math.MinInt, R: math.MinInt}} {
		for _, l := range [][]api.View{all(), {{Id: 5, Height: api.Height{Tau: v.Tau, Oid: v.Oid, R: v.R, Id: 64}}}} {
			forgets(t, l, v, 70, l)
		}
	}
}

func TestForgetOfAnyViews(t *testing.T) { // P12.3, R1
	levels := []api.Level{{}, {R: 1}, {Tau: 7, Oid: 1}}
	for _, own := range owns() {
		levels = append(levels, api.Level{Tau: own.Tau, Oid: own.Oid, R: own.R})
	}
	for _, l := range append(right(), loose()...) {
		for _, v := range levels {
			for _, keep := range []int{-1, 0, 2, 4, 5, 7, 9, 63} {
				want := slices.Clone(l)
				for i, x := range l {
					if told(x.Height) && x.Id != keep && x.Height.Tau == v.Tau && x.Height.Oid == v.Oid && x.Height.R == v.R {
						want[i].Height = api.Height{Null: true, Id: x.Height.Id}
					}
				}
				forgets(t, l, v, keep, want)
			}
		}
	}
}

func TestForgetLeavesIdsAsTheyAre(t *testing.T) { // P12.3
	l := []api.View{{Id: 4, Height: at(7, 2).Height}, {Id: 7, Height: at(4, 2).Height}}
	forgets(t, l, api.Level{}, 4, []api.View{l[0], {Id: 7, Height: none(4).Height}})
	forgets(t, l, api.Level{}, 7, []api.View{{Id: 4, Height: none(7).Height}, l[1]})
	forgets(t, l, api.Level{}, 0, []api.View{{Id: 4, Height: none(7).Height}, {Id: 7, Height: none(4).Height}})
}

func TestLowest(t *testing.T) { // P12.3
	a, b, c := row(1, 3, 0, 0, 0), row(2, 0, 0, 1, 0), row(4, 0, 0, 1, -1)
	for _, l := range [][]api.View{{a, b, c}, {c, b, a}, {b, c, a}, {none(0), a, b, none(3), c, none(9)}, {{Id: 0, Height: api.Height{Id: 64}}, c, {Id: 0, Height: api.Height{Id: -1}}}, {c}} {
		if v, ok := views.Lowest(l); v != c || !ok {
			t.Errorf("Lowest(%v): %v, %v, want %v", l, v, ok, c)
		}
	}
	for _, l := range [][]api.View{nil, {}, {none(0)}, {none(3), none(5)}} {
		if v, ok := views.Lowest(l); v != (api.View{}) || ok {
			t.Errorf("Lowest(%v): %v, %v, want none", l, v, ok)
		}
	}
	for _, h := range wrongHeights(5) {
		l := []api.View{{Id: 5, Height: h}}
		if v, ok := views.Lowest(l); v != (api.View{}) || ok {
			t.Errorf("Lowest(%v): %v, %v, want none", l, v, ok)
		}
	}
	if v, ok := views.Lowest([]api.View{at(0, 0)}); v != (api.View{}) || !ok {
		t.Errorf("Lowest of noughts: %v, %v, want true", v, ok)
	}
}

func TestLowestOfAlikeOnesIsTheFirst(t *testing.T) { // P12.3
	h := at(7, 2).Height
	l := []api.View{{Id: 5, Height: at(7, 3).Height}, {Id: 9, Height: h}, {Id: 3, Height: h}, {Id: 1, Height: h}}
	if v, ok := views.Lowest(l); v != l[1] || !ok {
		t.Errorf("Lowest(%v): %v, %v, want %v", l, v, ok, l[1])
	}
}

func TestLowestOfAnyViews(t *testing.T) { // P12.3, R1
	for _, l := range append(right(), loose()...) {
		before := slices.Clone(l)
		v, ok := views.Lowest(l)
		i := slices.IndexFunc(l, func(x api.View) bool {
			return told(x.Height) && !slices.ContainsFunc(l, func(y api.View) bool { return less(y.Height, x.Height) })
		})
		if i < 0 && (v != (api.View{}) || ok) || i >= 0 && (v != l[i] || !ok) {
			t.Errorf("Lowest(%v): %v, %v", l, v, ok)
		}
		if !slices.Equal(l, before) {
			t.Errorf("Lowest of %v turned it to %v", before, l)
		}
	}
}

func TestWhatWasSetIsGotAndTurnsNoOther(t *testing.T) { // P12.4
	for _, l := range right() {
		for id := range api.MaxNodes {
			for _, v := range []api.View{at(id, id-9), none(id)} {
				m, e := views.Set(l, id, v.Height)
				if h, ok := views.Get(m, id); h != v.Height || !ok || e != api.OK || views.Check(m) != api.OK {
					t.Fatalf("Get of %v behind Set: %v, %v, %d", v, h, ok, e)
				}
				others := func(x api.View) bool { return x.Id == id }
				if !slices.Equal(slices.DeleteFunc(slices.Clone(m), others), slices.DeleteFunc(slices.Clone(l), others)) {
					t.Fatalf("Set(%v, %v) turned others: %v", l, v, m)
				}
				d, e := views.Drop(m, id)
				if _, ok := views.Get(d, id); ok || e != api.OK || views.Check(d) != api.OK || len(d) != len(m)-1 {
					t.Fatalf("Drop(%v, %d): %v, %d", m, id, d, e)
				}
			}
		}
	}
}

func TestEachIsBelowOrAboveAndNotBoth(t *testing.T) { // P12.4
	for _, l := range right() {
		for _, own := range owns() {
			if !told(own) {
				continue
			}
			below, above := views.Below(l, own), views.Above(l, own)
			for _, v := range l {
				b, a := slices.Contains(below, v.Id), slices.Contains(above, v.Id)
				if told(v.Height) && v.Id != own.Id && b == a || b && a || !told(v.Height) && (b || a) {
					t.Errorf("%v and %v: below %v, above %v", v, own, b, a)
				}
			}
			if v, ok := views.Lowest(l); len(below) > 0 && (!ok || v.Id != below[0]) {
				t.Errorf("Lowest(%v): %v, %v, want %d", l, v, ok, below[0])
			}
		}
	}
}

// plain is what is known by nodes, to hold views against.
type plain [api.MaxNodes]*api.Height

func (x *plain) views() []api.View {
	var l []api.View
	for id, h := range x {
		if h != nil {
			l = append(l, api.View{Id: id, Height: *h})
		}
	}
	return l
}

func (x *plain) drop(id int) api.Errno {
	if x[id] == nil {
		return api.ErrNone
	}
	x[id] = nil
	return api.OK
}

// lower are the Ids of those that are told, from the lowest one up.
func (x *plain) lower() []int {
	l := slices.DeleteFunc(x.views(), func(v api.View) bool { return !told(v.Height) })
	slices.SortFunc(l, func(a, b api.View) int {
		return cmp.Or(a.Height.Tau-b.Height.Tau, a.Height.Oid-b.Height.Oid, a.Height.R-b.Height.R, a.Height.Delta-b.Height.Delta, a.Id-b.Id)
	})
	var ids []int
	for _, v := range l {
		ids = append(ids, v.Id)
	}
	return ids
}

func TestAsAPlainTableWould(t *testing.T) { // P12.1 to P12.4
	seed := uint32(12)
	roll := func(n int) int {
		seed = seed*1664525 + 1013904223
		return int(seed>>8) % n
	}
	for _, nodes := range []int{1, 2, 5, 20, 64} {
		var l []api.View
		x := &plain{}
		for i := range 3000 {
			id := roll(nodes)
			if roll(3) == 0 {
				want := x.drop(id)
				got, e := views.Drop(l, id)
				if e != want {
					t.Fatalf("%d, %d: Drop(%d): %d, want %d", nodes, i, id, e, want)
				}
				if e == api.OK {
					l = got
				}
			} else {
				v := row(id, roll(3), roll(3), roll(2), roll(5)-2)
				if roll(6) == 0 {
					v = none(id)
				}
				x[id] = &v.Height
				l, _ = views.Set(l, id, v.Height)
			}
			if !slices.Equal(l, x.views()) {
				t.Fatalf("%d, %d: %v, want %v", nodes, i, l, x.views())
			}
			up := x.lower()
			isBelow(t, l, api.Height{Tau: 9}, up...)
			isAbove(t, l, api.Height{Delta: -3}, up...)
			if v, ok := views.Lowest(l); ok != (len(up) > 0) || ok && v.Id != up[0] {
				t.Fatalf("%d, %d: Lowest(%v): %v, %v", nodes, i, l, v, ok)
			}
		}
	}
}

// spare is l with spare room behind it, which is filled.
func spare(l []api.View) ([]api.View, []api.View) {
	room := append(slices.Clone(l), at(60, 60), at(61, 61), at(62, 62))
	return room[:len(l):len(room)], room
}

func TestListsAreTheirOwn(t *testing.T) { // R2
	calls := map[string]func(l []api.View) []api.View{
		"Set of one more": func(l []api.View) []api.View { m, _ := views.Set(l, 8, at(8, 1).Height); return m },
		"Set of a last":   func(l []api.View) []api.View { m, _ := views.Set(l, 63, at(63, 1).Height); return m },
		"Set of a first":  func(l []api.View) []api.View { m, _ := views.Set(l, 0, at(0, 1).Height); return m },
		"Set again":       func(l []api.View) []api.View { m, _ := views.Set(l, 7, at(7, 1).Height); return m },
		"Drop":            func(l []api.View) []api.View { m, _ := views.Drop(l, 7); return m },
		"Drop the first":  func(l []api.View) []api.View { m, _ := views.Drop(l, 4); return m },
		"Drop the last":   func(l []api.View) []api.View { m, _ := views.Drop(l, 9); return m },
		"Forget":          func(l []api.View) []api.View { return views.Forget(l, api.Level{}, 0) },
		"Forget none":     func(l []api.View) []api.View { return views.Forget(l, api.Level{Tau: 1}, 0) },
	}
	for name, call := range calls {
		l, room := spare([]api.View{at(4, 3), at(7, 2), at(9, 1)})
		before := slices.Clone(room)
		one, two := call(l), call(l)
		want := slices.Clone(two)
		for i := range one {
			one[i] = none(1)
		}
		_ = append(one[:len(one):cap(one)], none(2))
		if !slices.Equal(room, before) || !slices.Equal(two, want) {
			t.Errorf("%s: %v and %v, want %v and %v", name, room, two, before, want)
		}
		for i := range l {
			l[i] = none(3)
		}
		if !slices.Equal(two, want) {
			t.Errorf("%s: %v is of what was handed in", name, two)
		}
	}
}

func TestBelowAndAboveWriteNothing(t *testing.T) { // R2
	l, room := spare([]api.View{at(1, 9), at(2, 8), at(3, 7), none(4), at(5, 6)})
	before := slices.Clone(room)
	one, two := views.Below(l, at(0, 10).Height), views.Below(l, at(0, 10).Height)
	for i := range one {
		one[i] = 40
	}
	isAbove(t, l, at(0, 0).Height, two...)
	if !slices.Equal(two, []int{5, 3, 2, 1}) || !slices.Equal(room, before) {
		t.Errorf("%v, and %v, want %v", two, room, before)
	}
}

func TestWorkersDoNotMeet(t *testing.T) { // R2
	l := all()
	below, above := views.Below(l, at(2, 1).Height), views.Above(l, at(2, 1).Height)
	var workers sync.WaitGroup
	wrong := make([]int, 8)
	for k := range wrong {
		workers.Go(func() {
			for i := range 300 {
				m, _ := views.Set(l, k, at(k, i).Height)
				h, _ := views.Get(m, k)
				d, _ := views.Drop(l, k)
				if h != at(k, i).Height || len(d) != 63 || !slices.Equal(views.Below(l, at(2, 1).Height), below) || !slices.Equal(views.Above(l, at(2, 1).Height), above) {
					wrong[k]++
				}
			}
		})
	}
	workers.Wait()
	for k, n := range wrong {
		if n != 0 {
			t.Errorf("worker %d: %d answers of others", k, n)
		}
	}
}
