package links_test

import (
	"math"
	"slices"
	"sync"
	"testing"

	"thalweg/api"
	"thalweg/links"
	"thalweg/views"
)

// row is a view of id at a height of its own.
func row(id, tau, oid, r, delta int) api.View {
	return api.View{Id: id, Height: api.Height{Tau: tau, Oid: oid, R: r, Delta: delta, Id: id}}
}

// at is a view of id at the level of noughts.
func at(id, delta int) api.View { return row(id, 0, 0, 0, delta) }

// none is a view of id of which nothing is known.
func none(id int) api.View { return api.View{Id: id, Height: api.Height{Null: true, Id: id}} }

// rising are views that are told, each lower than all behind it: by one number alone, or with numbers behind that one that are greater.
func rising() []api.View {
	return []api.View{
		row(63, 0, 0, 0, -api.MaxDelta), row(9, 0, 0, 0, -1), at(0, 0), at(1, 0), at(62, 0), at(8, 1), at(3, api.MaxDelta),
		row(50, 0, 0, 1, -api.MaxDelta), row(6, 0, 0, 1, -5), row(7, 0, 0, 1, -5), row(61, 0, 1, 0, -6), row(5, 0, 1, 1, -6), row(60, 0, 63, 0, -7),
		row(4, 1, 0, 0, -8), row(2, 1, 0, 0, 2), row(40, 1, 0, 1, 0), row(10, 1, 62, 0, 5), row(11, 2, 0, 0, 0),
		row(13, api.MaxTau, 0, 0, 0), row(12, api.MaxTau, 63, 1, api.MaxDelta), row(14, api.MaxTau, 63, 1, api.MaxDelta),
	}
}

// byId is l by rising Ids, as views that are right stand.
func byId(l []api.View) []api.View {
	return slices.SortedFunc(slices.Values(l), func(a, b api.View) int { return a.Id - b.Id })
}

// all has a view of each node there is, every fifth one Null, of no order, some of one level.
func all() []api.View {
	var l []api.View
	for id := range api.MaxNodes {
		v := row(id, id*37%11, id*29%7, id*13%2, id*41%17-8)
		if id%5 == 3 {
			v = none(id)
		}
		l = append(l, v)
	}
	return l
}

// right are views that are right.
func right() [][]api.View {
	return [][]api.View{
		nil, {}, {at(0, 0)}, {at(63, 0)}, {none(0)}, {none(63)}, {at(5, 2)}, {at(0, 0), at(63, 0)}, {none(0), none(1), none(62), none(63)},
		{at(1, 2), at(3, 1), none(5)},
		{at(7, -1), at(8, -2), at(9, -3)},
		{row(1, 4, 2, 1, 0), row(2, 4, 2, 1, -1), row(3, 4, 2, 0, -1), row(9, 4, 2, 1, -2)},
		{row(2, api.MaxTau, 63, 1, api.MaxDelta), row(4, api.MaxTau, 63, 1, -api.MaxDelta), row(6, 0, 63, 0, -api.MaxDelta), row(8, api.MaxTau, 0, 0, 0), row(10, 1, 0, 1, api.MaxDelta)},
		byId(rising()), all(), all()[:63], all()[1:],
	}
}

// wrongHeights are heights of id that are not right: each of one thing alone.
func wrongHeights(id int) []api.Height {
	l := []api.Height{
		{Id: id, Tau: -1}, {Id: id, Tau: api.MaxTau + 1}, {Id: id, Oid: -1}, {Id: id, Oid: 64}, {Id: id, R: -1}, {Id: id, R: 2},
		{Id: id, Delta: api.MaxDelta + 1}, {Id: id, Delta: -api.MaxDelta - 1},
		{Id: id, Null: true, Tau: 1}, {Id: id, Null: true, Oid: 1}, {Id: id, Null: true, R: 1}, {Id: id, Null: true, Delta: 1}, {Id: id, Null: true, Delta: -1},
	}
	for _, n := range []int{math.MinInt, math.MaxInt} {
		l = append(l, api.Height{Id: id, Tau: n}, api.Height{Id: id, Oid: n}, api.Height{Id: id, R: n}, api.Height{Id: id, Delta: n}, api.Height{Id: id, Null: true, Delta: n})
	}
	return l
}

// noNodes are numbers that no node has.
func noNodes() []int {
	return []int{-1, -2, -64, -256, math.MinInt, 64, 65, 128, 255, 256, 1 << 32, math.MaxInt}
}

// notTold are heights that are Null, or not right.
func notTold() []api.Height {
	l := append(wrongHeights(5), wrongHeights(0)...)
	for _, id := range []int{0, 4, 5, 63} {
		l = append(l, none(id).Height)
	}
	for _, id := range noNodes() {
		l = append(l, none(id).Height, at(id, 0).Height, row(id, 3, 2, 1, 7).Height)
	}
	return l
}

// loose are views that are not right: Ids that fall, or come twice, heights of other Ids, heights that are not right.
func loose() [][]api.View {
	l := [][]api.View{
		{at(9, 1), at(2, 3), at(9, -4), none(2), at(0, 1), at(2, 1)},
		{{Id: 4, Height: at(7, 2).Height}, {Id: 3, Height: at(7, 2).Height}, {Id: 7, Height: at(3, 2).Height}, {Id: 4, Height: at(7, 2).Height}, {Id: 8, Height: none(2).Height}},
		{{Id: -1, Height: at(1, 2).Height}, {Id: math.MaxInt, Height: at(1, 1).Height}, {Id: math.MinInt, Height: at(0, 2).Height}, {Id: 64, Height: at(1, 2).Height}},
		rising(), slices.Repeat(rising(), 3), append(all(), all()...),
	}
	for _, h := range notTold() {
		v := api.View{Id: 5, Height: h}
		l = append(l, []api.View{v}, []api.View{v, row(6, 0, 0, 1, 3)}, []api.View{row(4, 0, 0, 1, 3), v, at(6, 2)})
	}
	return l
}

// owns are heights to see views from: some that are told, some that are not.
func owns() []api.Height {
	l := append(notTold(), at(4, 0).Height, at(7, 2).Height, at(4, 2).Height, row(2, 0, 0, 1, 0).Height, row(9, 0, 3, 1, 5).Height, row(20, 5, 4, 0, 3).Height)
	for _, v := range rising() {
		l = append(l, v.Height)
	}
	return l
}

// told tells whether h is right and not Null, in words of its own.
func told(h api.Height) bool {
	within := func(n, low, high int) bool { return low <= n && n <= high }
	return !h.Null && within(h.Tau, 0, api.MaxTau) && within(h.Oid, 0, 63) && within(h.R, 0, 1) && within(h.Delta, -api.MaxDelta, api.MaxDelta) && within(h.Id, 0, 63)
}

// less tells whether a, which is told, is less than b, which is told, in words of its own.
func less(a, b api.Height) bool {
	return slices.Compare([]int{a.Tau, a.Oid, a.R, a.Delta, a.Id}, []int{b.Tau, b.Oid, b.R, b.Delta, b.Id}) < 0
}

// way tells which way h is from own, in words of its own.
func way(own, h api.Height) int {
	if !told(h) || told(own) && own == h {
		return api.DirNone
	}
	if told(own) && less(own, h) {
		return api.DirUp
	}
	return api.DirDown
}

// upwards are the Ids of the views of l that are that way from own, as one picks the lowest one that is left again and again.
func upwards(l []api.View, own api.Height, to int) []int {
	var ids []int
	left := slices.DeleteFunc(slices.Clone(l), func(v api.View) bool { return way(own, v.Height) != to })
	for len(left) > 0 {
		low := 0
		for i := range left {
			if less(left[i].Height, left[low].Height) {
				low = i
			}
		}
		ids = append(ids, left[low].Id)
		left = slices.Delete(left, low, low+1)
	}
	return ids
}

// levels are those of the views of l that are told, as one puts each where it belongs, if it is not there.
func levels(l []api.View) []api.Level {
	var found []api.Level
	for _, v := range l {
		x := api.Level{Tau: v.Height.Tau, Oid: v.Height.Oid, R: v.Height.R}
		if !told(v.Height) || slices.Contains(found, x) {
			continue
		}
		i := 0
		for i < len(found) && slices.Compare([]int{found[i].Tau, found[i].Oid, found[i].R}, []int{x.Tau, x.Oid, x.R}) < 0 {
			i++
		}
		found = slices.Insert(found, i, x)
	}
	return found
}

// isDir asks which way h is from own.
func isDir(t *testing.T, own, h api.Height, want int) {
	t.Helper()
	if got := links.Dir(own, h); got != want {
		t.Errorf("Dir(%v, %v): %d, want %d", own, h, got, want)
	}
}

// areDown asks for Downs, and for Next, which is the first one of them.
func areDown(t *testing.T, l []api.View, own api.Height, want ...int) {
	t.Helper()
	if got := links.Downs(l, own); !slices.Equal(got, want) {
		t.Errorf("Downs(%v, %v): %v, want %v", l, own, got, want)
	}
	id, ok := links.Next(l, own)
	if len(want) == 0 && (id != 0 || ok) || len(want) > 0 && (id != want[0] || !ok) {
		t.Errorf("Next(%v, %v): %d, %v, want the first one of %v", l, own, id, ok, want)
	}
}

// areUp asks for Ups.
func areUp(t *testing.T, l []api.View, own api.Height, want ...int) {
	t.Helper()
	if got := links.Ups(l, own); !slices.Equal(got, want) {
		t.Errorf("Ups(%v, %v): %v, want %v", l, own, got, want)
	}
}

// haveLevels asks for Levels.
func haveLevels(t *testing.T, l []api.View, want ...api.Level) {
	t.Helper()
	if got := links.Levels(l); !slices.Equal(got, want) {
		t.Errorf("Levels(%v): %v, want %v", l, got, want)
	}
}

func TestDirExamplesOfTheChapter(t *testing.T) { // P18.1
	isDir(t, none(0).Height, at(1, 0).Height, 1)
	isDir(t, none(1).Height, at(1, 0).Height, 1)
	isDir(t, at(1, 0).Height, none(0).Height, 0)
	isDir(t, at(2, 0).Height, at(1, 0).Height, 1)
}

func TestDirByTheFirstThatIsNotAlike(t *testing.T) { // P18.1
	l := rising()
	for i, own := range l {
		for k, v := range l {
			want := api.DirNone
			if k < i {
				want = api.DirDown
			} else if k > i {
				want = api.DirUp
			}
			isDir(t, own.Height, v.Height, want)
		}
	}
}

func TestDirOfNumbers(t *testing.T) { // P18.1
	if links.Dir(at(2, 0).Height, at(2, 0).Height) != 0 || links.Dir(at(2, 0).Height, at(1, 0).Height) != 1 || links.Dir(at(1, 0).Height, at(2, 0).Height) != 2 {
		t.Error("not 0, 1, 2")
	}
}

func TestDirToWhatIsNotTold(t *testing.T) { // P18.1, R1
	for _, h := range notTold() {
		for _, own := range owns() { // also none told from none told
			isDir(t, own, h, api.DirNone)
		}
	}
}

func TestDirFromWhatIsNotTold(t *testing.T) { // P18.1, R1
	for _, own := range notTold() {
		for _, v := range append(rising(), at(5, 0), at(4, 0), at(5, -3)) {
			isDir(t, own, v.Height, api.DirDown)
		}
	}
}

func TestDownsUpsAndNext(t *testing.T) { // P18.2
	l := []api.View{at(1, 2), at(3, 1), none(5), row(7, 9, 0, 0, 0), row(8, 9, 0, 0, -1)}
	areDown(t, l, at(4, 2).Height, 3, 1)
	areUp(t, l, at(4, 2).Height, 8, 7)
	areDown(t, l, at(4, 3).Height, 3, 1)
	areDown(t, l, at(0, 2).Height, 3)
	areUp(t, l, at(0, 2).Height, 1, 8, 7)
	areDown(t, l, at(0, 0).Height)
	areUp(t, l, at(0, 0).Height, 3, 1, 8, 7)
	areDown(t, l, row(9, 9, 0, 0, 0).Height, 3, 1, 8, 7)
	areUp(t, l, row(9, 9, 0, 0, 0).Height)
	areDown(t, l, l[4].Height, 3, 1) // one's own height is neither
	areUp(t, l, l[4].Height, 7)
	areDown(t, nil, at(0, 0).Height)
	areUp(t, nil, at(0, 0).Height)
	areDown(t, nil, none(0).Height)
	areUp(t, []api.View{}, none(0).Height)
}

func TestDownsAndUpsByTheFirstThatIsNotAlike(t *testing.T) { // P18.2
	up := rising()
	var ids []int
	for _, v := range up {
		ids = append(ids, v.Id)
	}
	backwards := slices.Clone(up)
	slices.Reverse(backwards)
	for _, l := range [][]api.View{up, backwards, byId(up)} {
		for i, v := range up {
			areDown(t, l, v.Height, ids[:i]...)
			areUp(t, l, v.Height, ids[i+1:]...)
		}
	}
}

func TestToWhoHasNoHeightAllAreDown(t *testing.T) { // P18.2, R1
	l := []api.View{at(1, 2), none(2), at(3, 1), {Id: 4, Height: api.Height{Tau: -1, Id: 4}}, row(7, 9, 0, 0, 0), row(8, 9, 0, 0, -1)}
	for _, own := range notTold() {
		areDown(t, l, own, 3, 1, 8, 7)
		areUp(t, l, own)
	}
}

func TestNextOfZeroIsOneToo(t *testing.T) { // P18.2
	areDown(t, []api.View{at(0, 0), at(2, 0)}, at(1, 0).Height, 0)
	areDown(t, []api.View{at(0, 0)}, none(1).Height, 0)
	areDown(t, []api.View{none(0)}, at(1, 0).Height)
	areDown(t, []api.View{none(0), none(3)}, none(1).Height)
	areDown(t, []api.View{at(2, 0)}, at(1, 0).Height)
}

func TestAlikeOnesAsTheyStand(t *testing.T) { // P18.2
	var l []api.View
	seed := uint32(3)
	for i := range 300 { // many of each of five heights, as they come
		seed = seed*1664525 + 1013904223
		l = append(l, api.View{Id: i * 7 % 300, Height: at(7, int(seed>>8)%5-2).Height})
	}
	for _, own := range []api.Height{at(6, 0).Height, at(7, 0).Height, at(8, 0).Height, at(8, 2).Height, none(8).Height} {
		areDown(t, l, own, upwards(l, own, api.DirDown)...)
		areUp(t, l, own, upwards(l, own, api.DirUp)...)
	}
	l = []api.View{{Id: 30, Height: at(7, 2).Height}, {Id: 10, Height: at(7, 2).Height}, {Id: 20, Height: at(7, 2).Height}}
	areDown(t, l, at(7, 2).Height)
	areUp(t, l, at(7, 2).Height)
	areDown(t, l, at(8, 2).Height, 30, 10, 20)
	areDown(t, l, none(8).Height, 30, 10, 20)
	areUp(t, l, at(6, 2).Height, 30, 10, 20)
}

func TestTheIdIsTheViews(t *testing.T) { // P18.2, R1
	l := []api.View{{Id: 100, Height: at(3, 5).Height}, {Id: -7, Height: at(2, 5).Height}, {Id: math.MinInt, Height: none(2).Height}, {Id: math.MaxInt, Height: at(1, 9).Height}}
	areDown(t, l, at(0, 6).Height, -7, 100)
	areUp(t, l, at(0, 5).Height, -7, 100, math.MaxInt)
	areDown(t, l, none(0).Height, -7, 100, math.MaxInt)
	areUp(t, l, at(2, 5).Height, 100, math.MaxInt)
}

func TestDownsAndUpsOfAnyViews(t *testing.T) { // P18.2, R1, R2
	for _, l := range append(right(), loose()...) {
		before := slices.Clone(l)
		for _, own := range owns() {
			areDown(t, l, own, upwards(l, own, api.DirDown)...)
			areUp(t, l, own, upwards(l, own, api.DirUp)...)
		}
		if !slices.Equal(l, before) {
			t.Errorf("%v became %v", before, l)
		}
	}
}

func TestWhoHasAHeightSeesWhatLayer12Sees(t *testing.T) { // P18.2
	for _, l := range right() {
		for _, own := range owns() {
			if told(own) {
				areDown(t, l, own, views.Below(l, own)...)
				areUp(t, l, own, views.Above(l, own)...)
			}
		}
	}
}

func TestLevels(t *testing.T) { // P18.3
	l := []api.View{at(1, 2), at(3, 1), none(5), row(7, 9, 0, 0, 0), row(8, 9, 0, 0, -1)}
	haveLevels(t, l, api.Level{}, api.Level{Tau: 9})
	slices.Reverse(l)
	haveLevels(t, l, api.Level{}, api.Level{Tau: 9})
	haveLevels(t, nil)
	haveLevels(t, []api.View{})
	haveLevels(t, []api.View{none(0)})
	haveLevels(t, []api.View{none(0), none(4), none(63)})
	haveLevels(t, []api.View{at(0, 0)}, api.Level{})
	haveLevels(t, []api.View{at(1, 9), at(2, -9), at(3, api.MaxDelta)}, api.Level{})
	haveLevels(t, []api.View{row(3, 5, 2, 1, 0), row(4, 5, 2, 1, 0)}, api.Level{Tau: 5, Oid: 2, R: 1})
	haveLevels(t, []api.View{row(3, 5, 2, 1, 0), row(4, 5, 2, 0, 9), row(5, 5, 2, 1, 9)}, api.Level{Tau: 5, Oid: 2}, api.Level{Tau: 5, Oid: 2, R: 1})
	haveLevels(t, []api.View{row(3, api.MaxTau, 63, 1, 0), none(4)}, api.Level{Tau: api.MaxTau, Oid: 63, R: 1})
}

func TestLevelsRiseByTauOidAndR(t *testing.T) { // P18.3
	var up []api.Level
	var l []api.View
	for _, tau := range []int{0, 1, 7, api.MaxTau} {
		for _, oid := range []int{0, 1, 62, 63} {
			for r := range 2 {
				up = append(up, api.Level{Tau: tau, Oid: oid, R: r})
				l = append(l, row(63-len(l), tau, oid, r, 40-len(l)), row(len(l), tau, oid, r, len(l)))
			}
		}
	}
	haveLevels(t, l, up...)
	slices.Reverse(l)
	haveLevels(t, l, up...)
	for k := range len(l) { // and of no order
		l[k], l[k*k%len(l)] = l[k*k%len(l)], l[k]
	}
	haveLevels(t, l, up...)
}

func TestLevelsOfWhatIsNotTold(t *testing.T) { // P18.3, R1
	for _, h := range notTold() {
		v := api.View{Id: 5, Height: h}
		haveLevels(t, []api.View{v})
		haveLevels(t, []api.View{v, v})
		haveLevels(t, []api.View{row(4, 1, 0, 1, 3), v, at(6, 2)}, api.Level{}, api.Level{Tau: 1, R: 1})
	}
	haveLevels(t, []api.View{{Id: -9, Height: row(4, 1, 0, 1, 3).Height}}, api.Level{Tau: 1, R: 1}) // the Height alone is asked
}

func TestLevelsOfAnyViews(t *testing.T) { // P18.3, R1, R2
	for _, l := range append(right(), loose()...) {
		before := slices.Clone(l)
		haveLevels(t, l, levels(l)...)
		if !slices.Equal(l, before) {
			t.Errorf("Levels of %v turned it to %v", before, l)
		}
	}
}

func TestOfTwoOneIsDownAndTheOtherUp(t *testing.T) { // P18.4
	for _, a := range append(rising(), all()...) {
		for _, b := range append(rising(), all()...) {
			there, back := links.Dir(a.Height, b.Height), links.Dir(b.Height, a.Height)
			if told(a.Height) && told(b.Height) && a.Height != b.Height && (there != api.DirDown || back != api.DirUp) && (there != api.DirUp || back != api.DirDown) {
				t.Errorf("%v and %v: %d and %d", a, b, there, back)
			}
		}
	}
}

func TestEachIsDownUpOrJustAsHigh(t *testing.T) { // P18.4
	for _, l := range append(right(), loose()...) {
		for _, own := range owns() {
			n := 0
			for _, v := range l {
				if told(v.Height) && v.Height != own {
					n++
				}
			}
			if downs, ups := links.Downs(l, own), links.Ups(l, own); len(downs)+len(ups) != n {
				t.Errorf("%v from %v: down %v, up %v, want %d in all", l, own, downs, ups, n)
			}
		}
	}
}

func TestWithOneLevelAloneAllAreAtIt(t *testing.T) { // P18.4
	for _, l := range append(right(), loose()...) {
		found := links.Levels(l)
		for _, v := range l {
			if len(found) == 1 && told(v.Height) && found[0] != (api.Level{Tau: v.Height.Tau, Oid: v.Height.Oid, R: v.Height.R}) {
				t.Errorf("Levels(%v): %v", l, found)
			}
		}
	}
}

func TestStepsDownHaveNoCycle(t *testing.T) { // P18.4
	seed := uint32(11)
	chance := func(n int) int {
		seed = seed*1664525 + 1013904223
		return int(seed>>9) % n
	}
	for range 200 {
		nodes := 2 + chance(63)
		var l []api.View
		for id := range nodes {
			l = append(l, row(id, chance(3), chance(3), chance(2), chance(5)-2))
		}
		here, steps := chance(nodes), 0
		for id, ok := links.Next(l, l[here].Height); ok; id, ok = links.Next(l[steps%2:], l[here].Height) { // node 0 out of sight by turns
			if links.Dir(l[here].Height, l[id].Height) != api.DirDown || steps > nodes {
				t.Fatalf("from %d to %d: step %d", here, id, steps)
			}
			here = id
			steps++
		}
	}
}

// spare is l with spare room behind it, which is filled.
func spare(l []api.View) ([]api.View, []api.View) {
	room := append(slices.Clone(l), at(60, 60), at(61, 61), at(62, 62))
	return room[:len(l):len(room)], room
}

func TestNothingHandedInIsWritten(t *testing.T) { // R2
	l, room := spare([]api.View{at(1, 9), row(2, 3, 0, 0, 8), at(3, 7), none(4), row(5, 0, 0, 1, 6), at(6, 1)})
	before := slices.Clone(room)
	for _, own := range owns() {
		links.Downs(l, own)
		links.Ups(l, own)
		links.Next(l, own)
		links.Levels(l)
		if !slices.Equal(room, before) {
			t.Fatalf("%v became %v", before, room)
		}
	}
}

func TestListsAreTheirOwn(t *testing.T) { // R2
	l, own := all(), at(4, 3).Height
	lists := map[string]func() []int{
		"Downs": func() []int { return links.Downs(l, own) },
		"Ups":   func() []int { return links.Ups(l, own) },
	}
	for name, call := range lists {
		one, two := call(), call()
		want := slices.Clone(two)
		for i := range one {
			one[i] = 99
		}
		_ = append(one, 98)
		if len(want) == 0 || !slices.Equal(two, want) || !slices.Equal(call(), want) {
			t.Errorf("%s: %v, want %v", name, two, want)
		}
	}
	one, two := links.Levels(l), links.Levels(l)
	clear(one)
	_ = append(one, api.Level{Tau: 9})
	if !slices.Equal(two, levels(l)) {
		t.Errorf("Levels: %v, want %v", two, levels(l))
	}
}

func TestWorkersDoNotMeet(t *testing.T) { // R2
	l, own := all(), at(2, 1).Height
	down, up, found := upwards(l, own, api.DirDown), upwards(l, own, api.DirUp), levels(l)
	var workers sync.WaitGroup
	wrong := make([]int, 8)
	for k := range wrong {
		workers.Go(func() {
			for range 200 {
				id, ok := links.Next(l, own)
				if !slices.Equal(links.Downs(l, own), down) || !slices.Equal(links.Ups(l, own), up) || !slices.Equal(links.Levels(l), found) || ok != (len(down) > 0) || ok && id != down[0] {
					wrong[k]++
				}
			}
		})
	}
	workers.Wait()
	for k, n := range wrong {
		if n != 0 {
			t.Errorf("worker %d: %d answers of others", k, n)
		}
	}
}
