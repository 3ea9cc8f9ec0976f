package sense_test

import (
	"math"
	"slices"
	"sync"
	"testing"

	"thalweg/api"
	"thalweg/sense"
)

// made is a sensor.
func made(t *testing.T, id, epoch, hold int) *sense.Sensor {
	t.Helper()
	s, e := sense.New(id, epoch, hold)
	if s == nil || e != api.OK {
		t.Fatalf("New(%d, %d, %d): %v, %d", id, epoch, hold, s, e)
	}
	return s
}

func up(id, epoch int) api.Event { return api.Event{Kind: api.EventUp, Id: id, Epoch: epoch} }

func down(id, epoch int) api.Event { return api.Event{Kind: api.EventDown, Id: id, Epoch: epoch} }

// says is a beacon of an epoch with echoes, told as Ids and Epochs.
func says(epoch int, echoes ...int) api.Beacon {
	return api.Beacon{Epoch: epoch, Echoes: pairs(echoes...)}
}

// pairs are echoes, told as Ids and Epochs.
func pairs(l ...int) []api.Echo {
	var echoes []api.Echo
	for i := 0; i < len(l); i += 2 {
		echoes = append(echoes, api.Echo{Id: l[i], Epoch: l[i+1]})
	}
	return echoes
}

// hears asks for the answer of Hear.
func hears(t *testing.T, s *sense.Sensor, now, from int, x api.Beacon, want ...api.Event) {
	t.Helper()
	if l, e := s.Hear(now, from, x); !slices.Equal(l, want) || e != api.OK {
		t.Errorf("Hear(%d, %d, %v): %v, %d, want %v", now, from, x, l, e, want)
	}
}

// ticks asks for the answer of Tick.
func ticks(t *testing.T, s *sense.Sensor, now int, want ...api.Event) {
	t.Helper()
	if l, e := s.Tick(now); !slices.Equal(l, want) || e != api.OK {
		t.Errorf("Tick(%d): %v, %d, want %v", now, l, e, want)
	}
}

// holds asks for the echoes of Beacon, which are of those that are remembered.
func holds(t *testing.T, s *sense.Sensor, epoch int, echoes ...int) {
	t.Helper()
	if x := s.Beacon(); x.Epoch != epoch || !slices.Equal(x.Echoes, pairs(echoes...)) {
		t.Errorf("Beacon: %v, want %v", x, says(epoch, echoes...))
	}
}

// links asks for what Links answers.
func links(t *testing.T, s *sense.Sensor, want ...int) {
	t.Helper()
	if l := s.Links(); !slices.Equal(l, pairs(want...)) {
		t.Errorf("Links: %v, want %v", l, pairs(want...))
	}
}

// refuses asks for an error of Hear, by which nothing turns.
func refuses(t *testing.T, s *sense.Sensor, now, from int, x api.Beacon, want api.Errno) {
	t.Helper()
	said, there := s.Beacon(), s.Links()
	if l, e := s.Hear(now, from, x); len(l) != 0 || e != want {
		t.Errorf("Hear(%d, %d, %v): %v, %d, want none, %d", now, from, x, l, e, want)
	}
	same(t, s, said, there)
}

// refusesTick asks for ErrArg of Tick, by which nothing turns.
func refusesTick(t *testing.T, s *sense.Sensor, now int) {
	t.Helper()
	said, there := s.Beacon(), s.Links()
	if l, e := s.Tick(now); len(l) != 0 || e != api.ErrArg {
		t.Errorf("Tick(%d): %v, %d, want none, ErrArg", now, l, e)
	}
	same(t, s, said, there)
}

// same asks whether the sensor says this, and has these links.
func same(t *testing.T, s *sense.Sensor, said api.Beacon, there []api.Echo) {
	t.Helper()
	if x := s.Beacon(); x.Epoch != said.Epoch || !slices.Equal(x.Echoes, said.Echoes) {
		t.Errorf("Beacon: %v, want %v as before", x, said)
	}
	if l := s.Links(); !slices.Equal(l, there) {
		t.Errorf("Links: %v, want %v as before", l, there)
	}
}

// noNodes are numbers that no node has.
func noNodes() []int {
	return []int{-1, -2, -64, -256, math.MinInt, 64, 65, 128, 255, 256, 1 << 32, math.MaxInt}
}

// noEpochs are numbers that are no epochs.
func noEpochs() []int {
	return []int{-1, -2, math.MinInt, api.MaxWord + 1, api.MaxWord + 2, math.MaxInt}
}

// noTimes are numbers that are no times.
func noTimes() []int {
	return []int{-1, -2, math.MinInt, api.MaxTime + 1, api.MaxTime + 2, math.MaxInt}
}

// wrongBeacons are beacons that are not right, each of one thing alone, although they see node 1 of epoch 5 (but for that one).
func wrongBeacons() []api.Beacon {
	l := []api.Beacon{says(7, 1, 5, 1, 5), says(7, 2, 0, 1, 5), says(7, 1, 5, 0, 3), says(7, 1, 5, 4, 2, 4, 2), says(7, 0, 0, 1, 5, 63, 9, 62, 9)}
	for _, n := range noEpochs() {
		l = append(l, says(n), says(n, 1, 5), says(7, 1, n), says(7, 1, 5, 2, n))
	}
	for _, id := range noNodes() {
		if id < 0 {
			l = append(l, says(7, id, 0), says(7, id, 0, 1, 5))
		} else {
			l = append(l, says(7, id, 0), says(7, 1, 5, id, 0))
		}
	}
	return l
}

func TestNew(t *testing.T) { // P13.1
	for _, id := range []int{0, 1, 62, 63} {
		for _, epoch := range []int{0, 1, 65535, 65536, api.MaxWord} {
			for _, hold := range []int{1, 2, api.MaxHold - 1, api.MaxHold} {
				s := made(t, id, epoch, hold)
				holds(t, s, epoch)
				links(t, s)
				ticks(t, s, 0)
			}
		}
	}
}

func TestNewOfWrongNumbers(t *testing.T) { // P13.1, R1
	wrong := func(id, epoch, hold int) {
		t.Helper()
		if s, e := sense.New(id, epoch, hold); s != nil || e != api.ErrArg {
			t.Errorf("New(%d, %d, %d): %v, %d, want nil, ErrArg", id, epoch, hold, s, e)
		}
	}
	for _, id := range noNodes() {
		wrong(id, 5, 10)
	}
	for _, epoch := range noEpochs() {
		wrong(1, epoch, 10)
	}
	for _, hold := range []int{0, -1, -10, math.MinInt, api.MaxHold + 1, api.MaxHold + 2, math.MaxInt} {
		wrong(1, 5, hold)
	}
	wrong(-1, -1, 0)
}

func TestNilSensor(t *testing.T) { // P13.1, R1
	var s *sense.Sensor
	for _, now := range []int{0, 5, -1, api.MaxTime + 1, math.MinInt, math.MaxInt} {
		if l, e := s.Tick(now); len(l) != 0 || e != api.ErrNil {
			t.Errorf("Tick(%d): %v, %d, want ErrNil", now, l, e)
		}
		for _, from := range append(noNodes(), 0, 1, 63) {
			for _, x := range append(wrongBeacons(), says(0), says(7, 1, 5)) {
				if l, e := s.Hear(now, from, x); len(l) != 0 || e != api.ErrNil {
					t.Errorf("Hear(%d, %d, %v): %v, %d, want ErrNil", now, from, x, l, e)
				}
			}
		}
	}
	holds(t, s, 0)
	links(t, s)
}

func TestHearTheExample(t *testing.T) { // P13.2, P13.3
	s := made(t, 1, 5, 10)
	hears(t, s, 0, 2, says(7))
	hears(t, s, 1, 2, says(7, 1, 5), up(2, 7))
	ticks(t, s, 11)
	ticks(t, s, 12, down(2, 7))
}

func TestALinkIsThereWhileTheSensorIsSeen(t *testing.T) { // P13.2
	s := made(t, 1, 5, 10)
	step := func(now int, x api.Beacon, there bool, want ...api.Event) {
		t.Helper()
		hears(t, s, now, 2, x, want...)
		holds(t, s, 5, 2, 7)
		if there {
			links(t, s, 2, 7)
		} else {
			links(t, s)
		}
	}
	step(0, says(7), false)
	step(1, says(7), false)
	step(2, says(7, 1, 5), true, up(2, 7))
	step(3, says(7, 1, 5), true)
	step(3, says(7, 1, 5), true)
	step(4, says(7), false, down(2, 7))
	step(5, says(7), false)
	step(6, says(7, 0, 5, 1, 5, 2, 5), true, up(2, 7))
	step(6, says(7, 0, 5, 2, 5), false, down(2, 7))
}

func TestItIsSeenOfItsIdAndEpoch(t *testing.T) { // P13.2
	unseen := []api.Beacon{says(7), says(7, 1, 4), says(7, 1, 6), says(7, 1, 0), says(7, 0, 5), says(7, 2, 5), says(7, 5, 1), says(7, 0, 5, 1, 4, 2, 5), says(7, 1, api.MaxWord)}
	for _, x := range unseen {
		s := made(t, 1, 5, 10)
		hears(t, s, 0, 2, x)
		hears(t, s, 0, 2, says(7, 1, 5), up(2, 7))
		hears(t, s, 0, 2, x, down(2, 7))
		links(t, s)
	}
	for _, id := range []int{0, 63} {
		for _, epoch := range []int{0, api.MaxWord} {
			s := made(t, id, epoch, 10)
			hears(t, s, 0, 2, says(7))
			hears(t, s, 0, 2, says(7, id, epoch), up(2, 7))
			hears(t, s, 0, 2, says(7, id, epoch^1), down(2, 7))
		}
	}
}

func TestTheFirstBeaconMayDo(t *testing.T) { // P13.2
	for _, from := range []int{0, 2, 62, 63} {
		for _, epoch := range []int{0, 1, api.MaxWord} {
			s := made(t, 1, 5, 10)
			hears(t, s, 3, from, says(epoch, 1, 5), up(from, epoch))
			links(t, s, from, epoch)
			holds(t, s, 5, from, epoch)
		}
	}
}

func TestAGreaterEpochIsAnotherLink(t *testing.T) { // P13.2
	s := made(t, 1, 5, 10)
	hears(t, s, 0, 2, says(7, 1, 5), up(2, 7))
	hears(t, s, 1, 2, says(8, 1, 5), down(2, 7), up(2, 8))
	links(t, s, 2, 8)
	hears(t, s, 2, 2, says(10), down(2, 8))
	holds(t, s, 5, 2, 10)
	links(t, s)
	hears(t, s, 3, 2, says(11))
	holds(t, s, 5, 2, 11)
	hears(t, s, 4, 2, says(12, 1, 5), up(2, 12))
	hears(t, s, 5, 2, says(api.MaxWord, 1, 5), down(2, 12), up(2, api.MaxWord))
	hears(t, s, 5, 2, says(api.MaxWord), down(2, api.MaxWord))
}

func TestALesserEpochIsOver(t *testing.T) { // P13.2
	for _, x := range []api.Beacon{says(0), says(6), says(6, 1, 5), says(0, 1, 5)} {
		s := made(t, 1, 5, 10)
		hears(t, s, 0, 2, says(7, 1, 5), up(2, 7))
		refuses(t, s, 1, 2, x, api.ErrOld)
		hears(t, s, 0, 2, says(7), down(2, 7))
	}
}

func TestALesserEpochOfOneWithoutALink(t *testing.T) { // P13.2
	s := made(t, 1, 5, 10)
	hears(t, s, 0, 2, says(7))
	refuses(t, s, 0, 2, says(6, 1, 5), api.ErrOld)
	hears(t, s, 0, 3, says(1))
	refuses(t, s, 0, 3, says(0), api.ErrOld)
	hears(t, s, 0, 4, says(0))
	hears(t, s, 0, 4, says(0, 1, 5), up(4, 0))
	hears(t, s, 0, 5, says(6, 1, 5), up(5, 6))
}

func TestWhatIsOverIsNotHeard(t *testing.T) { // P13.2, P13.3
	s := made(t, 1, 5, 10)
	hears(t, s, 0, 2, says(7, 1, 5), up(2, 7))
	refuses(t, s, 9, 2, says(6, 1, 5), api.ErrOld)
	ticks(t, s, 5)
	ticks(t, s, 11, down(2, 7))
	hears(t, s, 11, 2, says(6, 1, 5), up(2, 6))
}

func TestWhoIsForgottenMayComeOfALesserEpoch(t *testing.T) { // P13.2, P13.3
	s := made(t, 1, 5, 10)
	hears(t, s, 0, 2, says(7))
	ticks(t, s, 10)
	refuses(t, s, 10, 2, says(6), api.ErrOld)
	ticks(t, s, 11)
	hears(t, s, 11, 2, says(0, 1, 5), up(2, 0))
}

func TestHearForgetsNoOne(t *testing.T) { // P13.2, P13.3
	s := made(t, 1, 5, 10)
	hears(t, s, 0, 2, says(7, 1, 5), up(2, 7))
	hears(t, s, 500, 3, says(8, 1, 5), up(3, 8))
	links(t, s, 2, 7, 3, 8)
	refuses(t, s, 600, 2, says(6), api.ErrOld)
	hears(t, s, 700, 2, says(7, 1, 5))
	ticks(t, s, 700, down(3, 8))
}

func TestHearOfWrongArguments(t *testing.T) { // P13.2, R1
	s := made(t, 1, 5, 10)
	hears(t, s, 3, 2, says(7, 1, 5), up(2, 7))
	seen := says(9, 1, 5)
	for _, now := range append(noTimes(), 0, 1, 2) {
		refuses(t, s, now, 2, seen, api.ErrArg)
		refuses(t, s, now, 4, seen, api.ErrArg)
	}
	for _, from := range append(noNodes(), 1) {
		refuses(t, s, 4, from, seen, api.ErrArg)
	}
	for _, x := range wrongBeacons() {
		refuses(t, s, 4, 2, x, api.ErrArg)
		refuses(t, s, 4, 4, x, api.ErrArg)
	}
	links(t, s, 2, 7)
	hears(t, s, 3, 4, seen, up(4, 9))
}

func TestArgumentsAreAskedAheadOfEpochs(t *testing.T) { // P13.2, R1
	s := made(t, 1, 5, 10)
	hears(t, s, 3, 2, says(7))
	refuses(t, s, 2, 2, says(6), api.ErrArg)
	refuses(t, s, api.MaxTime+1, 2, says(6), api.ErrArg)
	refuses(t, s, 3, 2, says(6, 1, 5, 1, 5), api.ErrArg)
	refuses(t, s, 3, 2, says(-1), api.ErrArg)
	refuses(t, s, 3, 2, says(6), api.ErrOld)
}

func TestASensorDoesNotHearItself(t *testing.T) { // P13.2
	for id := range api.MaxNodes {
		s := made(t, id, 5, 10)
		refuses(t, s, 0, id, says(5, id, 5), api.ErrArg)
		refuses(t, s, 0, id, says(6), api.ErrArg)
		hears(t, s, 0, id^1, says(5, id, 5), up(id^1, 5))
	}
}

func TestTimesDoNotGoBack(t *testing.T) { // P13.2, P13.3
	s := made(t, 1, 5, 10)
	hears(t, s, 4, 2, says(7))
	refusesTick(t, s, 3)
	refuses(t, s, 3, 2, says(7), api.ErrArg)
	ticks(t, s, 4)
	hears(t, s, 4, 3, says(7))
	ticks(t, s, 6)
	refusesTick(t, s, 5)
	refuses(t, s, 5, 2, says(7), api.ErrArg)
	hears(t, s, 6, 2, says(7))
	ticks(t, s, 6)
	ticks(t, s, api.MaxTime)
	refusesTick(t, s, api.MaxTime-1)
	hears(t, s, api.MaxTime, 2, says(7, 1, 5), up(2, 7))
	ticks(t, s, api.MaxTime)
}

func TestTimesOfCallsThatWereRefusedDoNotCount(t *testing.T) { // P13.2, P13.3, R1
	s := made(t, 1, 5, 10)
	hears(t, s, 4, 2, says(7))
	refuses(t, s, 9, 2, says(6), api.ErrOld)
	refuses(t, s, 9, 1, says(6), api.ErrArg)
	refuses(t, s, 9, 64, says(6), api.ErrArg)
	refuses(t, s, 9, 2, says(-1), api.ErrArg)
	for _, now := range noTimes() {
		refuses(t, s, now, 2, says(7), api.ErrArg)
		refusesTick(t, s, now)
	}
	ticks(t, s, 4)
	hears(t, s, 4, 3, says(7))
}

func TestTickForgetsWhoWasHeardTooLongAgo(t *testing.T) { // P13.3
	for _, hold := range []int{1, 2, 10, 999, api.MaxHold} {
		for _, at := range []int{0, 1, 50, api.MaxTime - api.MaxHold - 1} {
			s := made(t, 1, 5, hold)
			hears(t, s, at, 2, says(7, 1, 5), up(2, 7))
			hears(t, s, at, 3, says(8))
			hears(t, s, at+1, 4, says(9, 1, 5), up(4, 9))
			ticks(t, s, at+hold)
			holds(t, s, 5, 2, 7, 3, 8, 4, 9)
			links(t, s, 2, 7, 4, 9)
			ticks(t, s, at+hold+1, down(2, 7))
			holds(t, s, 5, 4, 9)
			links(t, s, 4, 9)
			ticks(t, s, at+hold+1)
			if at < 100 {
				ticks(t, s, at+hold+2, down(4, 9))
				holds(t, s, 5)
				links(t, s)
			}
		}
	}
}

func TestEachBeaconIsHeardAnew(t *testing.T) { // P13.2, P13.3
	s := made(t, 1, 5, 10)
	hears(t, s, 0, 2, says(7, 1, 5), up(2, 7))
	hears(t, s, 8, 2, says(7, 1, 5))
	hears(t, s, 8, 3, says(7))
	ticks(t, s, 18)
	hears(t, s, 18, 2, says(7), down(2, 7))
	ticks(t, s, 28)
	holds(t, s, 5, 2, 7)
	hears(t, s, 28, 2, says(8))
	ticks(t, s, 38)
	holds(t, s, 5, 2, 8)
	ticks(t, s, 39)
	holds(t, s, 5)
}

func TestTickTellsByRisingIds(t *testing.T) { // P13.3
	s := made(t, 30, 5, 10)
	var want []api.Event
	for i := range api.MaxNodes {
		if from := i * 37 % api.MaxNodes; from != 30 && from%5 != 1 {
			hears(t, s, i/8, from, says(from*3, 30, 5), up(from, from*3))
		} else if from != 30 {
			hears(t, s, i/8, from, says(from))
		}
	}
	for id := range api.MaxNodes {
		if id != 30 && id%5 != 1 {
			want = append(want, down(id, id*3))
		}
	}
	ticks(t, s, 10)
	ticks(t, s, 1000, want...)
	holds(t, s, 5)
	links(t, s)
	ticks(t, s, api.MaxTime)
}

func TestTickOfNoOne(t *testing.T) { // P13.3
	s := made(t, 1, 5, 1)
	for _, now := range []int{0, 0, 1, 2, 3, 1000, api.MaxTime, api.MaxTime} {
		ticks(t, s, now)
		holds(t, s, 5)
	}
	s = made(t, 1, 5, 1)
	hears(t, s, api.MaxTime, 2, says(0, 1, 5), up(2, 0))
	ticks(t, s, api.MaxTime)
	links(t, s, 2, 0)
}

func TestBeaconAndLinksByRisingIds(t *testing.T) { // P13.3
	s := made(t, 31, api.MaxWord, 10)
	var heard, there []int
	for i := range api.MaxNodes {
		if from := (i*29 + 17) % api.MaxNodes; from%3 == 0 {
			hears(t, s, 0, from, says(from, 31, api.MaxWord), up(from, from))
		} else if from != 31 {
			hears(t, s, 0, from, says(from, 31, 0))
		}
	}
	for id := range api.MaxNodes {
		if id != 31 {
			heard = append(heard, id, id)
		}
		if id%3 == 0 {
			there = append(there, id, id)
		}
	}
	holds(t, s, api.MaxWord, heard...)
	links(t, s, there...)
}

// kept is what a plain sensor keeps of one node.
type kept struct {
	epoch, when int
	there       bool
}

// plain is a sensor in words of its own, to hold sensors against. It takes what is right alone.
type plain struct {
	id, epoch, hold int
	of              map[int]kept
}

func (p *plain) hear(now, from int, x api.Beacon) ([]api.Event, api.Errno) {
	var l []api.Event
	k, ok := p.of[from]
	if ok && k.epoch > x.Epoch {
		return nil, api.ErrOld
	}
	if ok && k.epoch < x.Epoch && k.there {
		l = append(l, down(from, k.epoch))
		k.there = false
	}
	k.epoch, k.when = x.Epoch, now
	sees := slices.Contains(x.Echoes, api.Echo{Id: p.id, Epoch: p.epoch})
	if sees && !k.there {
		l = append(l, up(from, x.Epoch))
	}
	if !sees && k.there {
		l = append(l, down(from, x.Epoch))
	}
	k.there = sees
	p.of[from] = k
	return l, api.OK
}

func (p *plain) tick(now int) []api.Event {
	var l []api.Event
	for id := range api.MaxNodes {
		k, ok := p.of[id]
		if ok && now-k.when > p.hold {
			if k.there {
				l = append(l, down(id, k.epoch))
			}
			delete(p.of, id)
		}
	}
	return l
}

// lists are the pairs of those that are remembered, and of those whose links are there.
func (p *plain) lists() ([]int, []int) {
	var heard, there []int
	for id := range api.MaxNodes {
		k, ok := p.of[id]
		if ok {
			heard = append(heard, id, k.epoch)
		}
		if k.there {
			there = append(there, id, k.epoch)
		}
	}
	return heard, there
}

// told keeps of each node its last event, and asks whether each one may follow the one ahead of it.
type told map[int]api.Event

func (w told) take(t *testing.T, l []api.Event) {
	t.Helper()
	for _, v := range l {
		last, ok := w[v.Id]
		if !ok && v.Kind != api.EventUp || ok && v.Kind == last.Kind || v.Kind == api.EventDown && v.Epoch != last.Epoch {
			t.Fatalf("%v behind %v", v, last)
		}
		w[v.Id] = v
	}
}

// up are the pairs of those whose last event was Up.
func (w told) up() []int {
	var l []int
	for id := range api.MaxNodes {
		if v := w[id]; v.Kind == api.EventUp {
			l = append(l, id, v.Epoch)
		}
	}
	return l
}

// roller is a row of numbers by which tests choose.
type roller uint32

func (r *roller) roll(n int) int {
	*r = *r*1664525 + 1013904223
	return int(*r>>8) % n
}

func TestAsAPlainSensorWould(t *testing.T) { // P13.2 to P13.4
	r := roller(13)
	for _, nodes := range []int{2, 3, 6, 20, 64} {
		for _, hold := range []int{1, 7, 40} {
			id, now := r.roll(nodes), 0
			s := made(t, id, 5, hold)
			p := &plain{id: id, epoch: 5, hold: hold, of: map[int]kept{}}
			w := told{}
			for range 2000 {
				now += r.roll(3)
				if r.roll(6) == 0 {
					want := p.tick(now)
					ticks(t, s, now, want...)
					w.take(t, want)
				} else if from := r.roll(nodes); from != id {
					x := says(r.roll(4)+now/100, id, 4+r.roll(2))
					want, e := p.hear(now, from, x)
					if e == api.OK {
						hears(t, s, now, from, x, want...)
					} else {
						refuses(t, s, now, from, x, e)
					}
					w.take(t, want)
				}
				heard, there := p.lists()
				holds(t, s, 5, heard...)
				links(t, s, there...)
				links(t, s, w.up()...)
			}
			if t.Failed() {
				t.Fatalf("%d nodes, hold %d", nodes, hold)
			}
		}
	}
}

func TestTwoThatHearOneAnotherThreeTimes(t *testing.T) { // P13.4
	for _, n := range [][4]int{{0, 63, 0, 0}, {1, 2, 5, 7}, {63, 4, api.MaxWord, 0}} {
		a, b := made(t, n[0], n[2], 5), made(t, n[1], n[3], 5)
		w, v := told{}, told{}
		for now := range 3 {
			l, e := a.Hear(now, n[1], b.Beacon())
			m, f := b.Hear(now, n[0], a.Beacon())
			if e != api.OK || f != api.OK {
				t.Fatalf("%v: %d and %d", n, e, f)
			}
			w.take(t, l)
			v.take(t, m)
		}
		links(t, a, n[1], n[3])
		links(t, b, n[0], n[2])
		if !slices.Equal(w.up(), []int{n[1], n[3]}) || !slices.Equal(v.up(), []int{n[0], n[2]}) {
			t.Errorf("%v: %v and %v", n, w, v)
		}
	}
}

func TestOneThatBeginsAnewHasAnotherLink(t *testing.T) { // P13.2, P13.4
	a, b := made(t, 1, 5, 10), made(t, 2, 7, 10)
	hears(t, a, 0, 2, b.Beacon())
	hears(t, b, 0, 1, a.Beacon(), up(1, 5))
	hears(t, a, 1, 2, b.Beacon(), up(2, 7))
	a = made(t, 1, 6, 10)
	hears(t, b, 2, 1, a.Beacon(), down(1, 5))
	hears(t, a, 2, 2, b.Beacon(), up(2, 7))
	hears(t, b, 3, 1, a.Beacon(), up(1, 6))
}

func TestListsAreTheirOwn(t *testing.T) { // R2
	s := made(t, 1, 5, 10)
	room := append(pairs(1, 5, 3, 4), pairs(60, 60, 61, 61)...)
	before := slices.Clone(room)
	hears(t, s, 0, 2, api.Beacon{Epoch: 7, Echoes: room[:2]}, up(2, 7))
	hears(t, s, 0, 3, api.Beacon{Epoch: 8, Echoes: room[:2]}, up(3, 8))
	if !slices.Equal(room, before) {
		t.Errorf("%v became %v", before, room)
	}
	for i := range room {
		room[i] = api.Echo{Id: 9, Epoch: 9}
	}
	for _, call := range []func() []api.Echo{s.Links, func() []api.Echo { return s.Beacon().Echoes }} {
		one, two := call(), call()
		for i := range one {
			one[i] = api.Echo{Id: 50, Epoch: 50}
		}
		_ = append(one[:len(one):cap(one)], api.Echo{Id: 51})
		if !slices.Equal(two, pairs(2, 7, 3, 8)) {
			t.Errorf("%v is of the other answer", two)
		}
		if !slices.Equal(call(), two) {
			t.Errorf("%v, want %v", call(), two)
		}
	}
}

func TestEventsAreTheirOwn(t *testing.T) { // R2
	s := made(t, 1, 5, 10)
	one, _ := s.Hear(0, 2, says(7, 1, 5))
	two, _ := s.Hear(0, 2, says(8, 1, 5))
	for i := range one {
		one[i] = down(9, 9)
	}
	if !slices.Equal(two, []api.Event{down(2, 7), up(2, 8)}) {
		t.Errorf("%v", two)
	}
	three, _ := s.Tick(11)
	for i := range two {
		two[i] = up(9, 9)
	}
	if !slices.Equal(three, []api.Event{down(2, 8)}) {
		t.Errorf("%v", three)
	}
}

func TestSensorsDoNotMeet(t *testing.T) { // R2
	a, b := made(t, 1, 5, 10), made(t, 1, 5, 10)
	hears(t, a, 4, 2, says(7, 1, 5), up(2, 7))
	holds(t, b, 5)
	links(t, b)
	hears(t, b, 1, 2, says(3))
	ticks(t, b, 100)
	holds(t, b, 5)
	links(t, a, 2, 7)
	ticks(t, a, 5)
}

func TestWorkersDoNotMeet(t *testing.T) { // R2
	var all sync.WaitGroup
	wrong := make([]int, 8)
	for k := range wrong {
		all.Go(func() {
			s, _ := sense.New(k, 5, 10)
			for i := range 300 {
				l, e := s.Hear(i*20, k+8, says(i, k, 5))
				m, f := s.Tick(i*20 + 11)
				if !slices.Equal(l, []api.Event{up(k+8, i)}) || !slices.Equal(m, []api.Event{down(k+8, i)}) || e != api.OK || f != api.OK || len(s.Links()) != 0 || len(s.Beacon().Echoes) != 0 {
					wrong[k]++
				}
			}
		})
	}
	all.Wait()
	for k, n := range wrong {
		if n != 0 {
			t.Errorf("worker %d: %d answers of others", k, n)
		}
	}
}
