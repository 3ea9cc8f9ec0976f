package serial_test

import (
	"math"
	"slices"
	"sync"
	"testing"

	"thalweg/serial"
)

const round = 65536

// left answers what is left of a by 65536, by division alone.
func left(a int) int { return (a%round + round) % round }

// edges are ints at which something may turn.
func edges() []int {
	return []int{
		0, 1, 2, 255, 256, 32766, 32767, 32768, 32769, 65534, 65535, 65536, 65537,
		-1, -2, -32767, -32768, -32769, -65535, -65536, -65537,
		3*round - 1, 3 * round, 3*round + 1, -3*round - 1, -3 * round, -3*round + 1,
		math.MaxInt32, math.MinInt32, math.MaxInt32 + 1, math.MinInt32 - 1,
		math.MaxInt - 1, math.MaxInt, math.MinInt, math.MinInt + 1,
	}
}

func TestNextAnswersTheNumberBehind(t *testing.T) { // P3.1
	for _, x := range []struct{ a, want int }{
		{0, 1},
		{1, 2},
		{254, 255},
		{255, 256},
		{32766, 32767},
		{32767, 32768},
		{65534, 65535},
		{65535, 0},
		{65536, 1},
		{131071, 0},
		{131072, 1},
		{-1, 0},
		{-2, 65535},
		{-65535, 2},
		{-65536, 1},
		{-65537, 0},
		{-65538, 65535},
		{math.MaxInt, 0},
		{math.MaxInt - 1, 65535},
		{math.MinInt, 1},
		{math.MinInt + 1, 2},
	} {
		if n := serial.Next(x.a); n != x.want {
			t.Errorf("Next(%d): %d, want %d", x.a, n, x.want)
		}
	}
}

func TestNextGoesRoundByAllNumbers(t *testing.T) { // P3.1
	at := 0
	for i := 1; i <= 2*round; i++ {
		if at = serial.Next(at); at != i%round {
			t.Fatalf("%d steps from 0: %d", i, at)
		}
	}
}

func TestFarAnswersHowFarTheSecondIsFromTheFirst(t *testing.T) { // P3.1
	for _, x := range []struct{ a, b, want int }{
		{0, 0, 0},
		{7, 7, 0},
		{0, 1, 1},
		{1, 0, 65535},
		{3, 10, 7},
		{10, 3, 65529},
		{65535, 0, 1},
		{65535, 2, 3},
		{2, 65535, 65533},
		{0, 65535, 65535},
		{0, 32767, 32767},
		{0, 32768, 32768},
		{32768, 0, 32768},
		{0, 32769, 32769},
		{60000, 27231, 32767},
		{60000, 27232, 32768},
		{0, 65536, 0},
		{65536, 0, 0},
		{65537, 0, 65535},
		{-1, 0, 1},
		{0, -1, 65535},
		{-1, 65535, 0},
		{-3, -1, 2},
		{-1, -3, 65534},
		{math.MinInt, math.MaxInt, 65535},
		{math.MaxInt, math.MinInt, 1},
		{math.MinInt, math.MinInt, 0},
		{math.MaxInt, math.MaxInt, 0},
		{math.MinInt, 5, 5},
		{5, math.MinInt, 65531},
		{1, math.MaxInt, 65534},
		{math.MaxInt, 1, 2},
	} {
		if n := serial.Far(x.a, x.b); n != x.want {
			t.Errorf("Far(%d, %d): %d, want %d", x.a, x.b, n, x.want)
		}
	}
}

func TestFarOfAllEdges(t *testing.T) { // P3.1, R1
	for _, a := range edges() {
		for _, b := range edges() {
			if n, want := serial.Far(a, b), left(left(b)-left(a)); n != want {
				t.Errorf("Far(%d, %d): %d, want %d", a, b, n, want)
			}
		}
	}
}

func TestLessTellsWhetherTheFirstComesAhead(t *testing.T) { // P3.1
	for _, a := range edges() {
		for _, x := range []struct {
			far  int
			want bool
		}{
			{0, false},
			{1, true},
			{2, true},
			{32766, true},
			{32767, true},
			{32768, false},
			{32769, false},
			{65534, false},
			{65535, false},
		} {
			b := left(left(a) + x.far)
			if is := serial.Less(a, b); is != x.want {
				t.Errorf("Less(%d, %d): %v, want %v", a, b, is, x.want)
			}
		}
	}
}

func TestLessOfNumbersThatAreNotLeft(t *testing.T) { // P3.1
	for _, x := range []struct {
		a, b int
		want bool
	}{
		{65535, 2, true},
		{2, 65535, false},
		{-1, 0, true},
		{0, -1, false},
		{65536, 1, true},
		{65536, 0, false},
		{0, 65536, false},
		{65535, 65536, true},
		{-65536, 32767, true},
		{-65536, 32768, false},
		{math.MaxInt, math.MinInt, true},
		{math.MinInt, math.MaxInt, false},
		{math.MinInt, math.MinInt, false},
	} {
		if is := serial.Less(x.a, x.b); is != x.want {
			t.Errorf("Less(%d, %d): %v, want %v", x.a, x.b, is, x.want)
		}
	}
}

func TestWithinTellsWhetherOneIsOfSoMany(t *testing.T) { // P3.1
	for _, x := range []struct {
		a, first, size int
		want           bool
	}{
		{5, 5, 0, false},
		{5, 5, 1, true},
		{6, 5, 1, false},
		{4, 5, 1, false},
		{4, 5, 65535, false},
		{4, 5, 65536, true},
		{3, 5, 65535, true},
		{20, 5, 16, true},
		{21, 5, 16, false},
		{65534, 65534, 4, true},
		{65535, 65534, 4, true},
		{0, 65534, 4, true},
		{1, 65534, 4, true},
		{2, 65534, 4, false},
		{65533, 65534, 4, false},
		{-2, 65534, 1, true},
		{-3, 65534, 4, false},
		{65537, -2, 4, true},
		{65538, -2, 4, false},
		{32768, 0, 32768, false},
		{32768, 0, 32769, true},
		{40000, 0, 40001, true},
		{math.MinInt, math.MaxInt, 1, false},
		{math.MinInt, math.MaxInt, 2, true},
	} {
		if is := serial.Within(x.a, x.first, x.size); is != x.want {
			t.Errorf("Within(%d, %d, %d): %v, want %v", x.a, x.first, x.size, is, x.want)
		}
	}
}

func TestWithinOfSizesThatHoldAllOrNone(t *testing.T) { // P3.1, R1, R5
	for _, a := range edges() {
		for _, first := range edges() {
			for _, size := range []int{0, -1, -65535, -65536, math.MinInt} {
				if serial.Within(a, first, size) {
					t.Errorf("Within(%d, %d, %d)", a, first, size)
				}
			}
			for _, size := range []int{65536, 65537, 131072, 131073, math.MaxInt} {
				if !serial.Within(a, first, size) {
					t.Errorf("Within(%d, %d, %d) is false", a, first, size)
				}
			}
		}
	}
}

func TestSortOfKnownLists(t *testing.T) { // P3.2
	for _, x := range []struct {
		l     []int
		first int
		want  []int
	}{
		{nil, 0, nil},
		{[]int{}, 9, nil},
		{[]int{7}, 0, []int{7}},
		{[]int{7}, 8, []int{7}},
		{[]int{7, 7, 7}, 7, []int{7}},
		{[]int{2, 65535, 0, 2}, 65534, []int{65535, 0, 2}},
		{[]int{2, 65535, 0, 2, -1}, 65534, []int{65535, 0, 2}},
		{[]int{1, 0}, 1, []int{1, 0}},
		{[]int{1, 0}, 0, []int{0, 1}},
		{[]int{1, 0}, 2, []int{0, 1}},
		{[]int{3, 1, 2}, 0, []int{1, 2, 3}},
		{[]int{1, 2, 3}, 2, []int{2, 3, 1}},
		{[]int{3, 2, 1}, 3, []int{3, 1, 2}},
		{[]int{32767, 32768, 32769, 0}, 0, []int{0, 32767, 32768, 32769}},
		{[]int{32767, 32768, 32769, 0}, 32768, []int{32768, 32769, 0, 32767}},
		{[]int{65536, 0, -65536, 131072}, 5, []int{0}},
		{[]int{65537, -1, 1, 65535}, 0, []int{1, 65535}},
		{[]int{65537, -1, 1, 65535}, -1, []int{65535, 1}},
		{[]int{65537, -1, 1, 65535}, 131070, []int{65535, 1}},
		{[]int{math.MinInt, math.MaxInt, 5}, math.MaxInt, []int{65535, 0, 5}},
		{[]int{math.MinInt, math.MaxInt, 5}, math.MinInt, []int{0, 5, 65535}},
	} {
		if l := serial.Sort(x.l, x.first); !slices.Equal(l, x.want) {
			t.Errorf("Sort(%v, %d): %v, want %v", x.l, x.first, l, x.want)
		}
	}
}

// plainSort walks once round from first on, and takes what stands in l.
func plainSort(l []int, first int) []int {
	there := map[int]bool{}
	for _, a := range l {
		there[left(a)] = true
	}
	var sorted []int
	for far := range round {
		if a := left(left(first) + far); there[a] {
			sorted = append(sorted, a)
		}
	}
	return sorted
}

func TestSortOfLongLists(t *testing.T) { // P3.2
	var l []int
	for i := range 5000 {
		l = append(l, i*i*7919-i*100003, i*37)
	}
	for _, first := range []int{0, 1, 32768, 65535, 40321, -77, 3*round + 12, math.MaxInt, math.MinInt} {
		for _, n := range []int{1, 2, 13, 1000, len(l)} {
			if got, want := serial.Sort(l[:n], first), plainSort(l[:n], first); !slices.Equal(got, want) {
				t.Errorf("Sort of %d from %d: %d numbers, want %d, or others", n, first, len(got), len(want))
			}
		}
		if got, want := serial.Sort(edges(), first), plainSort(edges(), first); !slices.Equal(got, want) {
			t.Errorf("Sort of edges from %d: %v, want %v", first, got, want)
		}
	}
}

func TestSortOfAllNumbers(t *testing.T) { // P3.2
	var l []int
	for i := range 2 * round {
		l = append(l, round-i)
	}
	sorted := serial.Sort(l, 50000)
	if len(sorted) != round {
		t.Fatalf("%d numbers", len(sorted))
	}
	for i, a := range sorted {
		if a != (50000+i)%round {
			t.Fatalf("%d at %d", a, i)
		}
	}
}

func TestNothingTurnsByAMultiple(t *testing.T) { // P3.3
	l := []int{0, 1, 2, 15, 16, 32767, 32768, 32769, 65534, 65535}
	for _, turn := range []int{round, -round, 2 * round, -7 * round, 1 << 40, -1 << 40, math.MinInt} {
		turned := make([]int, len(l))
		for i, a := range l {
			turned[i] = a + turn
			if serial.Next(a+turn) != serial.Next(a) {
				t.Errorf("Next(%d) by %d", a, turn)
			}
		}
		for _, a := range l {
			if got, want := serial.Sort(turned, a+turn), serial.Sort(l, a); !slices.Equal(got, want) {
				t.Errorf("Sort from %d by %d: %v, want %v", a, turn, got, want)
			}
			for _, b := range l {
				far, less, within := serial.Far(a, b), serial.Less(a, b), serial.Within(a, b, 16)
				for _, x := range [][2]int{{a + turn, b}, {a, b + turn}, {a + turn, b + turn}} {
					if serial.Far(x[0], x[1]) != far || serial.Less(x[0], x[1]) != less || serial.Within(x[0], x[1], 16) != within {
						t.Errorf("%d, %d by %d: %v", a, b, turn, x)
					}
				}
			}
		}
	}
}

func TestFarThereAndBack(t *testing.T) { // P3.3
	for _, a := range edges() {
		for far := range round {
			b := left(left(a) + far)
			there, back := serial.Far(a, b), serial.Far(b, a)
			if there != far || there+back != round && (there != 0 || back != 0) {
				t.Fatalf("Far of %d, %d: %d, %d", a, b, there, back)
			}
		}
	}
}

func TestOfTwoThatAreNotAlikeOneIsLess(t *testing.T) { // P3.3
	for _, a := range edges() {
		for far := range round {
			b := left(left(a) + far)
			one := serial.Less(a, b) != serial.Less(b, a)
			both := serial.Less(a, b) && serial.Less(b, a)
			if both || one != (far != 0 && far != 32768) {
				t.Fatalf("%d, %d: %v, %v", a, b, serial.Less(a, b), serial.Less(b, a))
			}
		}
	}
}

func TestWithinIsWhatFarSays(t *testing.T) { // P3.1
	for _, first := range edges() {
		for _, a := range edges() {
			far := left(left(a) - left(first))
			if serial.Within(a, first, far) || !serial.Within(a, first, far+1) {
				t.Errorf("Within(%d, %d) by %d", a, first, far)
			}
		}
	}
}

func TestListsHandedInStayAsTheyAre(t *testing.T) { // R2
	room := []int{9, -1, 3, 65536, 3, 70000, 0, 9, 12, 11}
	was := slices.Clone(room)
	serial.Sort(room[:7], 4)
	serial.Sort(room[:2], 65535)
	serial.Sort(room[:0], 1)
	if !slices.Equal(room, was) {
		t.Errorf("%v, was %v", room, was)
	}
}

func TestAnswersShareNoMemory(t *testing.T) { // R2
	l := []int{1, 2, 3}
	a := serial.Sort(l, 1)
	b := serial.Sort(l, 1)
	a[0], a[1], a[2] = 7, 8, 9
	if c := serial.Sort(l, 1); !slices.Equal(b, []int{1, 2, 3}) || !slices.Equal(c, b) || !slices.Equal(l, b) {
		t.Errorf("%v, %v, %v", l, b, c)
	}
}

func TestCallsAtOneTimeDoNotMeet(t *testing.T) { // R2
	var all sync.WaitGroup
	turned := make([]int, 8)
	for k := range turned {
		all.Go(func() {
			for i := range 5000 {
				a := k*8000 + i
				l := serial.Sort([]int{a + 2, a, a + 1}, a)
				if serial.Next(a) != a+1 || serial.Far(a, a+k) != k || !slices.Equal(l, []int{a, a + 1, a + 2}) {
					turned[k]++
				}
			}
		})
	}
	all.Wait()
	for k, n := range turned {
		if n != 0 {
			t.Errorf("worker %d: %d answers of others", k, n)
		}
	}
}
