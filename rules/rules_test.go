package rules_test

import (
	"math"
	"slices"
	"sync"
	"testing"

	"thalweg/api"
	"thalweg/links"
	"thalweg/rules"
	"thalweg/views"
)

const me = 5 // who takes a height, where a test says nothing else

// row is a view of id at a height of its own.
func row(id, tau, oid, r, delta int) api.View {
	return api.View{Id: id, Height: api.Height{Tau: tau, Oid: oid, R: r, Delta: delta, Id: id}}
}

// at is a view of id at the level of noughts.
func at(id, delta int) api.View { return row(id, 0, 0, 0, delta) }

// none is a view of id of which nothing is known.
func none(id int) api.View { return api.View{Id: id, Height: null(id)} }

// null is the height of id that is Null.
func null(id int) api.Height { return api.Height{Null: true, Id: id} }

// mine is a height of me.
func mine(tau, oid, r, delta int) api.Height { return row(me, tau, oid, r, delta).Height }

// lowest is the lowest height that me may have.
func lowest() api.Height { return mine(0, 0, 0, -api.MaxDelta) }

// noNodes are numbers that no node has.
func noNodes() []int {
	return []int{-1, -2, -64, -256, math.MinInt, 64, 65, 128, 255, 256, 1 << 32, math.MaxInt}
}

// noTimes are numbers that no time is.
func noTimes() []int {
	return []int{-1, -2, -1 << 32, math.MinInt, api.MaxTau + 1, api.MaxTau + 2, math.MaxInt}
}

// wrongHeights are heights of id that are not right: each of one thing alone.
func wrongHeights(id int) []api.Height {
	l := []api.Height{
		{Id: id, Tau: -1}, {Id: id, Tau: api.MaxTau + 1}, {Id: id, Oid: -1}, {Id: id, Oid: 64}, {Id: id, R: -1}, {Id: id, R: 2},
		{Id: id, Delta: api.MaxDelta + 1}, {Id: id, Delta: -api.MaxDelta - 1},
		{Id: id, Null: true, Tau: 1}, {Id: id, Null: true, Oid: 1}, {Id: id, Null: true, R: 1}, {Id: id, Null: true, Delta: 1}, {Id: id, Null: true, Delta: -1},
	}
	for _, n := range []int{math.MinInt, math.MaxInt} {
		l = append(l, api.Height{Id: id, Tau: n}, api.Height{Id: id, Oid: n}, api.Height{Id: id, R: n}, api.Height{Id: id, Delta: n}, api.Height{Id: id, Null: true, Delta: n})
	}
	for _, n := range noNodes() {
		l = append(l, null(n), at(n, 0).Height)
	}
	return l
}

// wrongViews are views that are not right: each of one thing alone.
func wrongViews() [][]api.View {
	l := [][]api.View{
		{at(4, 1), at(3, 2)}, {at(4, 1), at(4, 1)}, {none(4), none(4)}, {at(4, 1), none(4)}, {none(9), none(2)}, {at(1, 1), at(2, 1), at(9, 1), at(3, 1)},
		{{Id: 4, Height: at(3, 1).Height}}, {{Id: 4, Height: null(3)}}, {{Id: 1}}, {at(1, 1), {Id: 4, Height: at(7, 1).Height}, at(8, 1)},
	}
	for _, h := range wrongHeights(7) {
		v := api.View{Id: h.Id, Height: h}
		l = append(l, []api.View{v}, []api.View{at(1, 1), v}, []api.View{{Id: 7, Height: h}, at(8, 1)})
	}
	return l
}

// all has a view of each node there is but of me, every fifth one Null, of no order, some of one level.
func all() []api.View {
	var l []api.View
	for id := range api.MaxNodes {
		v := row(id, id*37%11, id*29%7, id*13%2, id*41%17-8)
		if id%5 == 3 {
			v = none(id)
		}
		if id != me {
			l = append(l, v)
		}
	}
	return l
}

// level are views of all nodes but of me, all at one level.
func level(tau, oid, r int) []api.View {
	var l []api.View
	for id := range api.MaxNodes {
		if id != me {
			l = append(l, row(id, tau, oid, r, id*41%17-8))
		}
	}
	return l
}

// told tells whether h, which is right, is not Null.
func told(v api.View) bool { return !v.Height.Null }

// compare tells -1, 0 or 1, as a is lower than b, as high, or higher, in words of its own. Both are told.
func compare(a, b api.Height) int {
	return slices.Compare([]int{a.Tau, a.Oid, a.R, a.Delta, a.Id}, []int{b.Tau, b.Oid, b.R, b.Delta, b.Id})
}

// less tells whether a is at a lower level than b, in words of its own.
func less(a, b api.Height) bool {
	return slices.Compare([]int{a.Tau, a.Oid, a.R}, []int{b.Tau, b.Oid, b.R}) < 0
}

// choose tells what Case answers of views, an own height and a time that are right, in words of its own.
func choose(own api.Height, l []api.View, now int, lost bool) (api.Height, int, api.Errno) {
	erased, own2 := null(own.Id), api.Height{Tau: now, Oid: own.Id, Id: own.Id}
	heights := []api.Height{}
	for _, v := range l {
		if told(v) {
			heights = append(heights, v.Height)
		}
	}
	below := slices.ContainsFunc(heights, func(h api.Height) bool { return compare(h, own) < 0 })
	if own.Null || below {
		return own, 0, 0
	}
	if len(heights) == 0 {
		return erased, 6, 0
	}
	if lost {
		return own2, 1, 0
	}
	slices.SortFunc(heights, compare)
	low, high := heights[0], heights[len(heights)-1]
	if less(low, high) {
		i := slices.IndexFunc(heights, func(h api.Height) bool { return !less(h, high) })
		if heights[i].Delta == -api.MaxDelta {
			return api.Height{}, 0, api.ErrArg
		}
		return api.Height{Tau: high.Tau, Oid: high.Oid, R: high.R, Delta: heights[i].Delta - 1, Id: own.Id}, 2, 0
	}
	if low.R == 0 {
		return api.Height{Tau: low.Tau, Oid: low.Oid, R: 1, Id: own.Id}, 3, 0
	}
	if low.Oid == own.Id {
		return erased, 4, 0
	}
	return own2, 5, 0
}

// someHeights are heights of id: Null, and some of few levels.
func someHeights(id int) []api.Height {
	l := []api.Height{null(id)}
	for _, x := range [][4]int{{0, 0, 0, 0}, {0, 0, 0, 3}, {0, 5, 1, -api.MaxDelta}, {4, 2, 0, -2}, {4, 2, 0, 7}, {4, 2, 1, 0}, {4, 5, 0, 1}, {4, 5, 1, -api.MaxDelta}, {4, 5, 1, api.MaxDelta}, {api.MaxTau, 63, 1, 2}} {
		l = append(l, row(id, x[0], x[1], x[2], x[3]).Height)
	}
	return l
}

// each calls f with each own height, views of up to three nodes, one of which may be me, and lost or not.
func each(f func(own api.Height, l []api.View, lost bool)) {
	for _, ids := range [][]int{{}, {0}, {2}, {me}, {9}, {1, 8}, {2, me}, {me, 63}, {1, 7, 9}} {
		for _, l := range combinations(ids) {
			for _, own := range someHeights(me) {
				f(own, l, true)
				f(own, l, false)
			}
		}
	}
}

// combinations are all views of these Ids at some heights.
func combinations(ids []int) [][]api.View {
	if len(ids) == 0 {
		return [][]api.View{nil}
	}
	var l [][]api.View
	last := ids[len(ids)-1]
	for _, ahead := range combinations(ids[:len(ids)-1]) {
		for _, h := range someHeights(last) {
			l = append(l, append(slices.Clone(ahead), api.View{Id: last, Height: h}))
		}
	}
	return l
}

// adopts asks for Adopt's answer.
func adopts(t *testing.T, l []api.View, id int, want api.Height, wantE api.Errno) {
	t.Helper()
	if h, e := rules.Adopt(l, id); h != want || e != wantE {
		t.Errorf("Adopt(%v, %d): %v, %d, want %v, %d", l, id, h, e, want, wantE)
	}
}

// generates asks for Generate's answer.
func generates(t *testing.T, now, id int, want api.Height, wantE api.Errno) {
	t.Helper()
	if h, e := rules.Generate(now, id); h != want || e != wantE {
		t.Errorf("Generate(%d, %d): %v, %d, want %v, %d", now, id, h, e, want, wantE)
	}
}

// isCase asks for Case's answer.
func isCase(t *testing.T, own api.Height, l []api.View, now int, lost bool, want api.Height, kind int) {
	t.Helper()
	if h, k, e := rules.Case(own, l, now, lost); h != want || k != kind || e != api.OK {
		t.Errorf("Case(%v, %v, %d, %v): %v, %d, %d, want %v, %d", own, l, now, lost, h, k, e, want, kind)
	}
}

// isWrong asks for ErrArg of Case, and noughts beside it.
func isWrong(t *testing.T, own api.Height, l []api.View, now int, lost bool) {
	t.Helper()
	if h, k, e := rules.Case(own, l, now, lost); h != (api.Height{}) || k != 0 || e != api.ErrArg {
		t.Errorf("Case(%v, %v, %d, %v): %v, %d, %d, want ErrArg", own, l, now, lost, h, k, e)
	}
}

func TestAdoptExampleOfTheChapter(t *testing.T) { // P19.1
	adopts(t, []api.View{at(3, 1)}, 5, at(5, 2).Height, api.OK)
}

func TestAdoptIsOneAboveTheLowest(t *testing.T) { // P19.1
	l := []api.View{row(1, 3, 0, 0, 4), row(2, 1, 0, 1, 7), none(7), row(8, 1, 0, 1, 6), row(9, 1, 1, 0, -5)}
	adopts(t, l, 5, row(5, 1, 0, 1, 7).Height, api.OK)
	adopts(t, l[:3], 5, row(5, 1, 0, 1, 8).Height, api.OK)
	adopts(t, l[:1], 5, row(5, 3, 0, 0, 5).Height, api.OK)
	adopts(t, []api.View{at(1, 0)}, 0, at(0, 1).Height, api.OK)
	adopts(t, []api.View{at(0, -1)}, 63, at(63, 0).Height, api.OK)
	adopts(t, []api.View{row(6, api.MaxTau, 63, 1, -9)}, 2, row(2, api.MaxTau, 63, 1, -8).Height, api.OK)
	adopts(t, []api.View{none(1), none(2), at(4, 8), none(60)}, 3, at(3, 9).Height, api.OK)
	adopts(t, []api.View{at(5, 8), at(6, 9)}, 5, at(5, 9).Height, api.OK) // me among them is a view as others are
	for id := range api.MaxNodes {
		adopts(t, l, id, row(id, 1, 0, 1, 7).Height, api.OK)
	}
}

func TestAdoptOfAnyViews(t *testing.T) { // P19.1
	lists := append(combinations([]int{1, me, 9}), all(), level(4, 2, 0), level(0, 0, 0))
	for _, l := range lists {
		want, wantE := api.Height{}, api.ErrNone
		for _, v := range l {
			if told(v) && (wantE == api.ErrNone || compare(v.Height, want) < 0) {
				want, wantE = v.Height, api.OK
			}
		}
		if wantE == api.OK {
			want.Delta, want.Id = want.Delta+1, 5
		}
		if want.Delta > api.MaxDelta {
			want, wantE = api.Height{}, api.ErrArg
		}
		adopts(t, l, 5, want, wantE)
	}
}

func TestAdoptOfNoneThatIsTold(t *testing.T) { // P19.1
	for _, l := range [][]api.View{nil, {}, {none(0)}, {none(7)}, {none(5)}, {none(0), none(5), none(63)}} {
		for _, id := range []int{0, 5, 7, 63} {
			adopts(t, l, id, api.Height{}, api.ErrNone)
		}
	}
}

func TestAdoptOfWrongArguments(t *testing.T) { // P19.1, R1
	for _, l := range wrongViews() {
		for _, id := range []int{0, 5, 63, 64} {
			adopts(t, l, id, api.Height{}, api.ErrArg)
		}
	}
	for _, id := range noNodes() { // ErrArg is named ahead of ErrNone
		for _, l := range [][]api.View{nil, {none(4)}, {at(3, 1)}, all()} {
			adopts(t, l, id, api.Height{}, api.ErrArg)
		}
	}
}

func TestAdoptAtTheBoundsOfDelta(t *testing.T) { // P19.1
	adopts(t, []api.View{at(1, api.MaxDelta-1)}, 5, at(5, api.MaxDelta).Height, api.OK)
	adopts(t, []api.View{at(1, api.MaxDelta)}, 5, api.Height{}, api.ErrArg)
	adopts(t, []api.View{at(1, -api.MaxDelta)}, 5, at(5, 1-api.MaxDelta).Height, api.OK)
	adopts(t, []api.View{at(1, api.MaxDelta), row(2, 1, 0, 0, 0)}, 5, api.Height{}, api.ErrArg) // the lowest one alone is asked
	adopts(t, []api.View{row(1, 1, 0, 0, api.MaxDelta), at(2, 0)}, 5, at(5, 1).Height, api.OK)
}

func TestGenerate(t *testing.T) { // P19.1
	generates(t, 9, 5, api.Height{Tau: 9, Oid: 5, Id: 5}, api.OK)
	for _, id := range []int{0, 1, 5, 62, 63} {
		for _, now := range []int{0, 1, 9, api.MaxTime, api.MaxTau - 1, api.MaxTau} {
			generates(t, now, id, api.Height{Tau: now, Oid: id, Id: id}, api.OK)
		}
		for _, now := range noTimes() {
			generates(t, now, id, api.Height{}, api.ErrArg)
		}
	}
	for _, id := range noNodes() {
		for _, now := range append(noTimes(), 0, 9, api.MaxTau) {
			generates(t, now, id, api.Height{}, api.ErrArg)
		}
	}
}

func TestCaseExampleOfTheChapter(t *testing.T) { // P19.2
	isCase(t, at(5, 0).Height, []api.View{at(3, 1)}, 9, false, api.Height{R: 1, Id: 5}, 3)
}

func TestCasesOneBehindTheOther(t *testing.T) { // P19.2
	low, gone := mine(0, 0, 0, -9), null(me)
	for _, x := range []struct {
		own  api.Height
		l    []api.View
		lost bool
		want api.Height
		kind int
	}{
		{gone, []api.View{at(1, 1)}, false, gone, api.CaseNone},
		{gone, []api.View{row(1, 3, 5, 1, 1)}, true, gone, api.CaseNone},
		{gone, nil, true, gone, api.CaseNone},
		{gone, []api.View{none(1)}, false, gone, api.CaseNone},
		{low, []api.View{at(1, -10), row(2, 3, 0, 0, 0)}, true, low, api.CaseNone},
		{low, []api.View{at(4, -9)}, false, low, api.CaseNone},
		{low, []api.View{row(1, 3, 5, 1, 0), row(2, 3, 5, 1, 0), at(60, -10)}, false, low, api.CaseNone},
		{low, nil, false, gone, api.CaseAlone},
		{low, nil, true, gone, api.CaseAlone},
		{low, []api.View{none(0), none(7)}, true, gone, api.CaseAlone},
		{low, []api.View{at(1, 1), none(7)}, true, mine(9, 5, 0, 0), api.CaseLost},
		{low, []api.View{at(1, 1), row(2, 3, 1, 0, 1)}, true, mine(9, 5, 0, 0), api.CaseLost},
		{low, []api.View{row(1, 3, 5, 1, 1)}, true, mine(9, 5, 0, 0), api.CaseLost},
		{low, []api.View{at(1, 1), row(2, 3, 1, 0, 4), row(3, 3, 1, 0, 2)}, false, mine(3, 1, 0, 1), api.CasePropagate},
		{low, []api.View{at(1, 1), row(2, 0, 0, 1, 4)}, false, mine(0, 0, 1, 3), api.CasePropagate},
		{low, []api.View{row(1, 3, 5, 0, -7), row(2, 3, 5, 1, 6), row(3, 3, 4, 1, -8), row(4, 3, 5, 1, 8)}, false, mine(3, 5, 1, 5), api.CasePropagate},
		{low, []api.View{row(1, 3, 1, 0, 1), row(2, 3, 1, 0, 4), none(7)}, false, mine(3, 1, 1, 0), api.CaseReflect},
		{low, []api.View{row(1, 3, 5, 0, 1)}, false, mine(3, 5, 1, 0), api.CaseReflect},
		{low, []api.View{at(9, -9)}, false, mine(0, 0, 1, 0), api.CaseReflect},
		{low, []api.View{row(1, 3, 5, 1, 1), row(2, 3, 5, 1, -1)}, false, gone, api.CaseDetect},
		{low, []api.View{none(0), row(1, 3, 5, 1, 1)}, false, gone, api.CaseDetect},
		{low, []api.View{row(1, 3, 4, 1, 1)}, false, mine(9, 5, 0, 0), api.CaseGenerate},
		{low, []api.View{row(1, 3, 0, 1, 1), row(7, 3, 0, 1, 1)}, false, mine(9, 5, 0, 0), api.CaseGenerate},
	} {
		isCase(t, x.own, x.l, 9, x.lost, x.want, x.kind)
	}
}

func TestCasesHaveTheirNumbers(t *testing.T) { // P19.2
	own := mine(0, 0, 0, 0)
	isCase(t, null(me), nil, 9, false, null(me), 0)
	isCase(t, own, []api.View{at(1, 1)}, 9, true, mine(9, 5, 0, 0), 1)
	isCase(t, own, []api.View{at(1, 1), row(2, 1, 0, 0, 0)}, 9, false, mine(1, 0, 0, -1), 2)
	isCase(t, own, []api.View{at(6, 0)}, 9, false, mine(0, 0, 1, 0), 3)
	isCase(t, own, []api.View{row(1, 1, 5, 1, 0)}, 9, false, null(me), 4)
	isCase(t, own, []api.View{row(1, 1, 6, 1, 0)}, 9, false, mine(9, 5, 0, 0), 5)
	isCase(t, own, nil, 9, false, null(me), 6)
}

func TestCaseOfEachNode(t *testing.T) { // P19.2
	for id := range api.MaxNodes {
		v, w := row((id+1)%64, 3, id, 1, 0), row((id+1)%64, 3, (id+1)%64, 1, 0)
		own := api.Height{Id: id}
		isCase(t, own, []api.View{v}, 9, false, null(id), api.CaseDetect)
		isCase(t, own, []api.View{w}, 9, false, api.Height{Tau: 9, Oid: id, Id: id}, api.CaseGenerate)
		isCase(t, own, []api.View{w}, 9, true, api.Height{Tau: 9, Oid: id, Id: id}, api.CaseLost)
		isCase(t, own, nil, 9, true, null(id), api.CaseAlone)
		isCase(t, null(id), []api.View{v}, 9, true, null(id), api.CaseNone)
	}
}

func TestCaseOfAHeightThatIsAsHigh(t *testing.T) { // P19.2
	own := mine(0, 0, 0, 2)
	l := []api.View{at(me, 2)} // neither down nor up, but told
	isCase(t, own, l, 9, false, mine(0, 0, 1, 0), api.CaseReflect)
	isCase(t, own, l, 9, true, mine(9, 5, 0, 0), api.CaseLost)
	isCase(t, own, []api.View{at(me, 2), row(9, 1, 0, 0, 0)}, 9, false, mine(1, 0, 0, -1), api.CasePropagate)
	isCase(t, own, []api.View{at(me, 1)}, 9, false, own, api.CaseNone)
}

func TestCaseAtTheBoundsOfNow(t *testing.T) { // P19.2
	l := []api.View{row(1, 3, 4, 1, 1)}
	for _, now := range []int{0, 1, 3, api.MaxTau - 1, api.MaxTau} {
		isCase(t, lowest(), l, now, true, mine(now, 5, 0, 0), api.CaseLost)
		isCase(t, lowest(), l, now, false, mine(now, 5, 0, 0), api.CaseGenerate)
	}
}

func TestCaseOfWrongNumbers(t *testing.T) { // P19.2, R1
	lists := [][]api.View{nil, {none(1)}, {at(1, 1)}, {row(1, 3, 5, 1, 0)}, {at(1, 1), row(2, 3, 5, 1, 0)}, {at(1, -api.MaxDelta)}, all()}
	for _, lost := range []bool{true, false} {
		for _, l := range lists {
			for _, h := range append(wrongHeights(me), wrongHeights(0)...) {
				isWrong(t, h, l, 9, lost)
			}
			for _, now := range noTimes() { // also where the case has nothing of the time
				isWrong(t, mine(0, 0, 0, 0), l, now, lost)
				isWrong(t, null(me), l, now, lost)
				isWrong(t, lowest(), l, now, lost)
			}
		}
		for _, l := range wrongViews() {
			for _, own := range someHeights(me) {
				isWrong(t, own, l, 9, lost)
			}
		}
	}
}

func TestPropagateAtTheBoundsOfDelta(t *testing.T) { // P19.2, R1
	own := lowest()
	pair := func(delta int) []api.View {
		return []api.View{row(6, 1, 0, 0, delta), at(9, 0), row(12, 1, 0, 0, api.MaxDelta)}
	}
	isCase(t, own, pair(api.MaxDelta), 9, false, mine(1, 0, 0, api.MaxDelta-1), api.CasePropagate)
	isCase(t, own, pair(1-api.MaxDelta), 9, false, mine(1, 0, 0, -api.MaxDelta), api.CasePropagate)
	isWrong(t, own, pair(-api.MaxDelta), 9, false)
	isCase(t, own, pair(-api.MaxDelta), 9, true, mine(9, 5, 0, 0), api.CaseLost)                                                // a Delta that is not taken does no harm
	isCase(t, own, []api.View{at(6, -api.MaxDelta), row(9, 1, 0, 0, 4)}, 9, false, mine(1, 0, 0, 3), api.CasePropagate)         // nor one of a lower level
	isCase(t, own, []api.View{row(6, 1, 0, 0, -api.MaxDelta), row(9, 1, 0, 0, 4)}, 9, false, mine(1, 0, 1, 0), api.CaseReflect) // nor one of the one level
}

func TestCaseOfAnyViews(t *testing.T) { // P19.2, R1, R2
	count := map[int]int{}
	ask := func(own api.Height, l []api.View, lost bool) {
		before := slices.Clone(l)
		want, kind, wantE := choose(own, l, 7, lost)
		h, k, e := rules.Case(own, l, 7, lost)
		if h != want || k != kind || e != wantE {
			t.Errorf("Case(%v, %v, 7, %v): %v, %d, %d, want %v, %d, %d", own, l, lost, h, k, e, want, kind, wantE)
		}
		if !slices.Equal(l, before) {
			t.Errorf("Case of %v turned it to %v", before, l)
		}
		count[kind+10*int(wantE)]++
	}
	each(ask)
	for _, l := range [][]api.View{all(), all()[9:], all()[:40], level(0, 0, 0), level(4, 2, 0), level(4, 5, 1), level(4, 6, 1)} {
		for _, own := range append(someHeights(me), lowest()) {
			ask(own, l, true)
			ask(own, l, false)
		}
	}
	for _, kind := range []int{0, 1, 2, 3, 4, 5, 6, 10} {
		if count[kind] < 20 {
			t.Errorf("case %d was asked for %d times", kind, count[kind])
		}
	}
}

func TestBehindACaseThereIsADown(t *testing.T) { // P19.3
	each(func(own api.Height, l []api.View, lost bool) {
		if slices.ContainsFunc(l, func(v api.View) bool { return v.Height.Tau == api.MaxTau || v.Id == me }) || own.Tau == api.MaxTau {
			return // no time is greater, or no neighbour
		}
		h, kind, e := rules.Case(own, l, 7, lost)
		downs, ups, all := links.Downs(l, h), links.Ups(l, h), links.Downs(l, null(me))
		switch {
		case e != api.OK:
			return
		case kind == api.CaseLost || kind == api.CaseReflect || kind == api.CaseGenerate:
			if !slices.Equal(downs, all) || len(all) == 0 {
				t.Errorf("%v, %v, %v: case %d, down from %v are %v", own, l, lost, kind, h, downs)
			}
		case kind == api.CasePropagate:
			if len(downs) == 0 || len(ups) == 0 || !slices.Equal(ups, greatest(l)) || len(downs)+len(ups) != len(all) {
				t.Errorf("%v, %v, %v: case %d, down from %v are %v, up %v", own, l, lost, kind, h, downs, ups)
			}
		}
		if !h.Null && compare(h, own) < 0 || kind != api.CaseNone && !h.Null && compare(h, own) == 0 {
			t.Errorf("%v, %v, %v: case %d turned it to %v", own, l, lost, kind, h)
		}
	})
}

// greatest are the Ids of the views of l that are told, and at the greatest level, the lowest one first.
func greatest(l []api.View) []int {
	var top []api.Height
	for _, v := range l {
		if !told(v) || len(top) > 0 && less(v.Height, top[0]) {
			continue
		}
		if len(top) > 0 && less(top[0], v.Height) {
			top = nil
		}
		top = append(top, v.Height)
	}
	slices.SortFunc(top, compare)
	var ids []int
	for _, h := range top {
		ids = append(ids, h.Id)
	}
	return ids
}

func TestWhoLosesAllDownsRisesTillOneIsDown(t *testing.T) { // P19.3
	seed := uint32(19)
	roll := func(n int) int {
		seed = seed*1664525 + 1013904223
		return int(seed>>8) % n
	}
	for range 300 {
		own, l := mine(0, 0, 0, 0), []api.View(nil)
		for now := 1; now < 60; now++ { // a neighbour's height comes, or is gone, and the node keeps its own
			id := roll(4) + 4
			if id == me {
				continue
			}
			v := row(id, roll(now), roll(7), roll(2), roll(5)-2)
			l, _ = views.Set(l, id, v.Height)
			if roll(5) == 0 {
				l, _ = views.Drop(l, id)
			}
			lost := roll(3) == 0
			want, kind, wantE := choose(own, l, now, lost)
			h, k, e := rules.Case(own, l, now, lost)
			if h != want || k != kind || e != wantE {
				t.Fatalf("Case(%v, %v, %d, %v): %v, %d, %d, want %v, %d, %d", own, l, now, lost, h, k, e, want, kind, wantE)
			}
			if !h.Null && !own.Null && (compare(h, own) < 0 || len(links.Downs(l, h)) == 0) {
				t.Fatalf("%v of %v: %v, case %d", own, l, h, k)
			}
			own = h
			if own.Null {
				if adopted, e := rules.Adopt(l, me); e == api.OK {
					own = adopted
				}
			}
			if len(links.Downs(l, own)) == 0 && !own.Null {
				t.Fatalf("%v of %v: none is down", own, l)
			}
		}
	}
}

func TestViewsAreNotWrittenInto(t *testing.T) { // R2
	own := mine(0, 0, 0, -9)
	for _, l := range [][]api.View{{at(1, 9), at(2, 8), none(4), row(6, 3, 2, 0, 1), row(7, 3, 2, 0, 0)}, {row(1, 3, 5, 1, 4), row(2, 3, 5, 1, 3)}, {row(1, 3, 5, 0, 4), row(2, 3, 5, 0, 3)}} {
		room := append(slices.Clone(l), at(60, 60), at(61, 61), at(62, 62))
		before := slices.Clone(room)
		for _, lost := range []bool{true, false} {
			h, k, e := rules.Case(own, room[:len(l)], 9, lost)
			want, kind, _ := choose(own, l, 9, lost)
			if again, k2, e2 := rules.Case(own, room[:len(l)], 9, lost); h != want || k != kind || e != api.OK || again != h || k2 != k || e2 != e {
				t.Errorf("Case(%v, %v): %v, %d and then %v, %d, want %v, %d", own, l, h, k, again, k2, want, kind)
			}
		}
		rules.Adopt(room[:len(l)], me)
		if !slices.Equal(room, before) {
			t.Errorf("%v became %v", before, room)
		}
	}
}

func TestWorkersDoNotMeet(t *testing.T) { // R2
	l := level(4, 2, 0)
	var workers sync.WaitGroup
	wrong := make([]int, 8)
	for k := range wrong {
		workers.Go(func() {
			for i := range 200 {
				own := api.Height{Delta: -9, Id: me}
				h, kind, _ := rules.Case(own, l, i, k%2 == 0)
				want, wantKind, _ := choose(own, l, i, k%2 == 0)
				if a, _ := rules.Adopt(l, k); h != want || kind != wantKind || a.Id != k {
					wrong[k]++
				}
			}
		})
	}
	workers.Wait()
	for k, n := range wrong {
		if n != 0 {
			t.Errorf("worker %d: %d answers of others", k, n)
		}
	}
}
