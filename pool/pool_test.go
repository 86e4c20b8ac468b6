package pool_test

import (
	"math"
	"slices"
	"strings"
	"testing"
	"unsafe"

	"croft/api"
	"croft/pool"
)

// most is how many frames a pool may have room for, as the document says.
const most = 65536

// numbers are those of frames that may be: all of them.
var numbers = []int{math.MinInt, math.MinInt + 1, -most, -1, 0, 1, 2, 255, most, math.MaxInt32, math.MaxInt - 1, math.MaxInt}

// made answers a new pool.
func made(t *testing.T, room int) *pool.Pool {
	t.Helper()
	p, e := pool.New(room)
	if e != api.OK || p == nil {
		t.Fatalf("New(%d): %d", room, e)
	}
	return p
}

// put fails the test unless a Put answers so.
func put(t *testing.T, p *pool.Pool, no int, s string, want api.Errno) {
	t.Helper()
	if e := p.Put(no, s); e != want {
		t.Fatalf("Put(%d) = %d, not %d", no, e, want)
	}
}

// set fails the test unless a Set answers so.
func set(t *testing.T, p *pool.Pool, no int, s string, want api.Errno) {
	t.Helper()
	if e := p.Set(no, s); e != want {
		t.Fatalf("Set(%d) = %d, not %d", no, e, want)
	}
}

// get fails the test unless the frame no has this text. It is a use of it.
func get(t *testing.T, p *pool.Pool, no int, want string) {
	t.Helper()
	if s, ok := p.Get(no); s != want || !ok {
		t.Fatalf("Get(%d) = %q, %v, not %q", no, s, ok, want)
	}
}

// absent fails the test if there is a frame no.
func absent(t *testing.T, p *pool.Pool, no int) {
	t.Helper()
	if s, ok := p.Get(no); s != "" || ok {
		t.Fatalf("Get(%d) = %q, %v: it is there", no, s, ok)
	}
}

// pin fails the test unless a Pin answers so.
func pin(t *testing.T, p *pool.Pool, no int, want bool) {
	t.Helper()
	if p.Pin(no) != want {
		t.Fatalf("Pin(%d) = %v", no, !want)
	}
}

// unpin fails the test unless an Unpin answers so.
func unpin(t *testing.T, p *pool.Pool, no int, want bool) {
	t.Helper()
	if p.Unpin(no) != want {
		t.Fatalf("Unpin(%d) = %v", no, !want)
	}
}

// isThere tells whether there is a frame no, without a use of it.
func isThere(t *testing.T, p *pool.Pool, no int) bool {
	t.Helper()
	ok := p.Pin(no)
	if p.Unpin(no) != ok {
		t.Fatalf("Unpin(%d) behind a Pin = %v", no, !ok)
	}
	return ok
}

// stand fails the test unless these frames are there, and no more.
func stand(t *testing.T, p *pool.Pool, want ...int) {
	t.Helper()
	if p.Len() != len(want) {
		t.Fatalf("Len = %d, not %d", p.Len(), len(want))
	}
	for _, no := range want {
		if !isThere(t, p, no) {
			t.Fatalf("the frame %d isn't there", no)
		}
	}
}

// dirty fails the test unless these frames are dirty.
func dirty(t *testing.T, p *pool.Pool, want ...int) {
	t.Helper()
	if got := p.Dirty(); !slices.Equal(got, want) {
		t.Fatalf("Dirty = %v, not %v", got, want)
	}
}

// go1 is the first of the numbers of frames that goes puts in.
const go1 = 1000

// goes fails the test unless, of a full pool, these frames go in this order for
// new ones, and then none may.
func goes(t *testing.T, p *pool.Pool, want ...int) {
	t.Helper()
	n := p.Len()
	for i, no := range want {
		if !isThere(t, p, no) {
			t.Fatalf("the frame %d isn't there, or went too early", no)
		}
		put(t, p, go1+i, "new", api.OK)
		if isThere(t, p, no) {
			t.Fatalf("the frame %d is there behind %d new ones", no, i+1)
		}
		pin(t, p, go1+i, true)
		if p.Len() != n {
			t.Fatalf("Len = %d, not %d", p.Len(), n)
		}
	}
	put(t, p, go1+len(want), "new", api.ErrFull)
}

// Promise 10.1: New, Get, Len.

func TestNewOfWrongRooms(t *testing.T) {
	for _, room := range []int{math.MinInt, math.MinInt32, -most, -1, 0, most + 1, 2 * most, math.MaxInt32, math.MaxInt} {
		if p, e := pool.New(room); p != nil || e != api.ErrArg {
			t.Errorf("New(%d) = %v, %d", room, p != nil, e)
		}
	}
}

func TestNewHasNoFrames(t *testing.T) {
	for _, room := range []int{1, 2, 3, 64, most - 1, most} {
		p := made(t, room)
		stand(t, p)
		dirty(t, p)
		for _, no := range numbers {
			absent(t, p, no)
			pin(t, p, no, false)
			unpin(t, p, no, false)
		}
		p.Clean()
		p.Drop()
		stand(t, p)
	}
}

func TestThereIsRoomForSoMany(t *testing.T) {
	for _, room := range []int{1, 2, 3, 7, 64, 255, most - 1, most} {
		p := made(t, room)
		for i := range room {
			set(t, p, i, "x", api.OK)
			if p.Len() != i+1 {
				t.Fatalf("Len = %d behind %d frames", p.Len(), i+1)
			}
		}
		set(t, p, room, "y", api.ErrFull)
		put(t, p, -1, "y", api.ErrFull)
		for i := range room {
			get(t, p, i, "x")
		}
		absent(t, p, room)
		absent(t, p, -1)
		if l := p.Dirty(); len(l) != room || l[0] != 0 || l[room-1] != room-1 {
			t.Errorf("%d of %d frames are dirty", len(l), room)
		}
	}
}

func TestTheOldestOfManyGoes(t *testing.T) {
	p := made(t, most)
	for i := range most {
		put(t, p, i, "x", api.OK)
	}
	get(t, p, 0, "x")
	get(t, p, 2, "x")
	for i, no := range []int{1, 3, 4, 5} {
		put(t, p, most+i, "y", api.OK)
		absent(t, p, no)
		if p.Len() != most {
			t.Errorf("Len = %d", p.Len())
		}
	}
	get(t, p, 0, "x")
	get(t, p, 2, "x")
	get(t, p, 6, "x")
	get(t, p, most-1, "x")
}

func TestNumbersAndTextsOfAllKinds(t *testing.T) {
	texts := []string{"", "\x00", "a", "a\x00", "\x00a", "\xff\xfe\x80", strings.Repeat("b", api.Page), strings.Repeat("c", 1<<20)}
	for _, lay := range []func(p *pool.Pool, no int, s string) api.Errno{(*pool.Pool).Put, (*pool.Pool).Set} {
		p := made(t, len(numbers))
		for i, no := range numbers {
			if e := lay(p, no, texts[i%len(texts)]); e != api.OK {
				t.Fatalf("Put or Set(%d) = %d", no, e)
			}
		}
		stand(t, p, numbers...)
		for i, no := range numbers {
			get(t, p, no, texts[i%len(texts)])
		}
		for _, no := range []int{math.MinInt + 2, -2, 3, 254, 256, math.MaxInt32 + 1} {
			absent(t, p, no)
		}
	}
}

func TestGetIsAUse(t *testing.T) {
	p := made(t, 3)
	put(t, p, 1, "a", api.OK)
	put(t, p, 2, "b", api.OK)
	put(t, p, 3, "c", api.OK)
	get(t, p, 2, "b")
	get(t, p, 1, "a")
	get(t, p, 2, "b")
	goes(t, p, 3, 1, 2)
}

func TestGetOfNoneChangesNothing(t *testing.T) {
	p := made(t, 3)
	set(t, p, 1, "a", api.OK)
	absent(t, p, 2)
	stand(t, p, 1)
	dirty(t, p, 1)
	put(t, p, 2, "b", api.OK)
	put(t, p, 3, "c", api.OK)
	absent(t, p, 4)
	dirty(t, p, 1)
	goes(t, p, 2, 3)
}

func TestPoolsHaveTheirOwnFrames(t *testing.T) {
	p, q := made(t, 1), made(t, 1)
	put(t, p, 1, "a", api.OK)
	absent(t, q, 1)
	set(t, q, 1, "b", api.OK)
	get(t, p, 1, "a")
	dirty(t, p)
	q.Drop()
	stand(t, p, 1)
	stand(t, q)
}

// Promise 10.2: Put, Set.

func TestPutIsCleanAndWithoutPins(t *testing.T) {
	p := made(t, 2)
	put(t, p, 5, "a", api.OK)
	get(t, p, 5, "a")
	dirty(t, p)
	unpin(t, p, 5, false)
	stand(t, p, 5)
}

func TestPutIsAUse(t *testing.T) {
	p := made(t, 3)
	put(t, p, 3, "c", api.OK)
	put(t, p, 1, "a", api.OK)
	get(t, p, 3, "c")
	put(t, p, 2, "b", api.OK)
	goes(t, p, 1, 3, 2)
}

func TestPutOfOneThatIsThere(t *testing.T) {
	p := made(t, 3)
	put(t, p, 1, "a", api.OK)
	set(t, p, 2, "b", api.OK)
	put(t, p, 3, "c", api.OK)
	pin(t, p, 3, true)
	for _, no := range []int{1, 2, 3} {
		put(t, p, no, "x", api.ErrThere)
	}
	dirty(t, p, 2)
	for no, s := range map[int]string{1: "a", 2: "b", 3: "c"} {
		get(t, p, no, s)
	}
	unpin(t, p, 1, false)
	unpin(t, p, 3, true)
	unpin(t, p, 3, false)
}

func TestARefusedPutIsNoUse(t *testing.T) {
	p := made(t, 2)
	put(t, p, 1, "a", api.OK)
	put(t, p, 2, "b", api.OK)
	put(t, p, 1, "a", api.ErrThere)
	goes(t, p, 1, 2)
}

func TestErrThereIsAheadOfErrFull(t *testing.T) {
	p := made(t, 2)
	set(t, p, 1, "a", api.OK)
	put(t, p, 2, "b", api.OK)
	pin(t, p, 2, true)
	put(t, p, 1, "x", api.ErrThere)
	put(t, p, 2, "x", api.ErrThere)
	put(t, p, 3, "x", api.ErrFull)
}

func TestNoneGoesWhileThereIsRoom(t *testing.T) {
	p := made(t, 3)
	put(t, p, 1, "a", api.OK)
	put(t, p, 2, "b", api.OK)
	set(t, p, 3, "c", api.OK)
	stand(t, p, 1, 2, 3)
	get(t, p, 1, "a")
	get(t, p, 2, "b")
	get(t, p, 3, "c")
}

func TestJustOneGoes(t *testing.T) {
	p := made(t, 4)
	for no := range 4 {
		put(t, p, no, "a", api.OK)
	}
	put(t, p, 4, "b", api.OK)
	stand(t, p, 1, 2, 3, 4)
	set(t, p, 5, "c", api.OK)
	stand(t, p, 2, 3, 4, 5)
	dirty(t, p, 5)
}

func TestOnlyCleanOnesWithoutPinsGo(t *testing.T) {
	p := made(t, 5)
	set(t, p, 1, "a", api.OK) // dirty
	put(t, p, 2, "b", api.OK) // pinned
	put(t, p, 3, "c", api.OK)
	set(t, p, 4, "d", api.OK) // both
	put(t, p, 5, "e", api.OK)
	pin(t, p, 2, true)
	pin(t, p, 4, true)
	goes(t, p, 3, 5)
	dirty(t, p, 1, 4)
}

func TestAFullPool(t *testing.T) {
	p := made(t, 3)
	set(t, p, 1, "a", api.OK)
	put(t, p, 2, "b", api.OK)
	pin(t, p, 2, true)
	set(t, p, 3, "c", api.OK)
	pin(t, p, 3, true)
	for range 3 {
		put(t, p, 4, "x", api.ErrFull)
		set(t, p, 4, "x", api.ErrFull)
	}
	stand(t, p, 1, 2, 3)
	dirty(t, p, 1, 3)
	absent(t, p, 4)
	for no, s := range map[int]string{1: "a", 2: "b", 3: "c"} {
		get(t, p, no, s)
	}
	unpin(t, p, 1, false)
	unpin(t, p, 2, true)
	unpin(t, p, 2, false)
	put(t, p, 4, "d", api.OK)
	stand(t, p, 1, 3, 4)
	get(t, p, 4, "d")
}

func TestARefusalOfAFullPoolIsNoUse(t *testing.T) {
	p := made(t, 2)
	set(t, p, 1, "a", api.OK)
	set(t, p, 2, "b", api.OK)
	set(t, p, 3, "c", api.ErrFull)
	put(t, p, 1, "x", api.ErrThere)
	p.Clean()
	goes(t, p, 1, 2)
}

func TestSetOfANewOne(t *testing.T) {
	p := made(t, 2)
	set(t, p, 7, "a", api.OK)
	get(t, p, 7, "a")
	dirty(t, p, 7)
	unpin(t, p, 7, false)
	put(t, p, 8, "b", api.OK)
	set(t, p, 9, "c", api.OK) // the frame 8 goes
	stand(t, p, 7, 9)
	dirty(t, p, 7, 9)
	set(t, p, 8, "d", api.ErrFull)
}

func TestSetOfOneThatIsThere(t *testing.T) {
	p := made(t, 2)
	put(t, p, 1, "a", api.OK)
	pin(t, p, 1, true)
	pin(t, p, 1, true)
	put(t, p, 2, "b", api.OK)
	set(t, p, 1, "longer", api.OK)
	get(t, p, 1, "longer")
	dirty(t, p, 1)
	set(t, p, 1, "", api.OK)
	get(t, p, 1, "")
	dirty(t, p, 1)
	stand(t, p, 1, 2) // none went, though there is no room
	get(t, p, 2, "b")
	unpin(t, p, 1, true) // the pins are as they were
	unpin(t, p, 1, true)
	unpin(t, p, 1, false)
}

func TestSetInAFullPool(t *testing.T) {
	p := made(t, 2)
	set(t, p, 1, "a", api.OK)
	put(t, p, 2, "b", api.OK)
	pin(t, p, 2, true)
	set(t, p, 1, "c", api.OK)
	set(t, p, 2, "d", api.OK)
	get(t, p, 1, "c")
	get(t, p, 2, "d")
	dirty(t, p, 1, 2)
	set(t, p, 3, "e", api.ErrFull)
}

func TestSetIsAUse(t *testing.T) {
	p := made(t, 4)
	put(t, p, 1, "a", api.OK)
	put(t, p, 2, "b", api.OK)
	set(t, p, 3, "c", api.OK)
	set(t, p, 1, "x", api.OK)
	put(t, p, 4, "d", api.OK)
	set(t, p, 3, "x", api.OK)
	p.Clean()
	goes(t, p, 2, 1, 4, 3)
}

func TestOneThatWentComesAgainAsNew(t *testing.T) {
	p := made(t, 1)
	set(t, p, 1, "a", api.OK)
	pin(t, p, 1, true)
	pin(t, p, 1, true)
	p.Drop()
	put(t, p, 1, "b", api.OK)
	dirty(t, p)
	unpin(t, p, 1, false)
	get(t, p, 1, "b")
	put(t, p, 2, "c", api.OK)
	set(t, p, 1, "d", api.OK)
	stand(t, p, 1)
	get(t, p, 1, "d")
	dirty(t, p, 1)
}

func TestAPoolOfOne(t *testing.T) {
	p := made(t, 1)
	for no := range 10 {
		put(t, p, no, string([]byte{byte('a' + no)}), api.OK)
		stand(t, p, no)
		get(t, p, no, string([]byte{byte('a' + no)}))
	}
	pin(t, p, 9, true)
	put(t, p, 10, "x", api.ErrFull)
	unpin(t, p, 9, true)
	set(t, p, 10, "x", api.OK)
	put(t, p, 11, "x", api.ErrFull)
	stand(t, p, 10)
}

// Promise 10.3: Pin, Unpin, Dirty, Clean, Drop.

func TestPinsAreCounted(t *testing.T) {
	p := made(t, 2)
	put(t, p, 1, "a", api.OK)
	set(t, p, 2, "b", api.OK)
	for n := range 50 {
		for range n {
			pin(t, p, 1, true)
			put(t, p, 3, "x", api.ErrFull)
		}
		for range n {
			put(t, p, 3, "x", api.ErrFull)
			unpin(t, p, 1, true)
		}
		unpin(t, p, 1, false)
		unpin(t, p, 1, false)
		unpin(t, p, 2, false)
		pin(t, p, 1, true)
		put(t, p, 3, "x", api.ErrFull) // a refused Unpin took none ahead
		unpin(t, p, 1, true)
	}
	get(t, p, 1, "a")
	dirty(t, p, 2)
	put(t, p, 3, "x", api.OK)
	absent(t, p, 1)
}

func TestPinsOfNoFrame(t *testing.T) {
	p := made(t, 2)
	put(t, p, 1, "a", api.OK)
	for _, no := range []int{0, 2, -1, math.MinInt, math.MaxInt} {
		pin(t, p, no, false)
		unpin(t, p, no, false)
	}
	pin(t, p, 2, false)
	put(t, p, 2, "b", api.OK) // a refused Pin is none ahead
	unpin(t, p, 2, false)
	stand(t, p, 1, 2)
}

func TestPinAndUnpinAreNoUse(t *testing.T) {
	p := made(t, 3)
	put(t, p, 1, "a", api.OK)
	put(t, p, 2, "b", api.OK)
	put(t, p, 3, "c", api.OK)
	pin(t, p, 1, true)
	pin(t, p, 2, true)
	unpin(t, p, 2, true)
	put(t, p, 4, "d", api.OK)
	absent(t, p, 2)
	unpin(t, p, 1, true)
	unpin(t, p, 3, false)
	goes(t, p, 1, 3, 4)
}

func TestDirtyIsRising(t *testing.T) {
	p := made(t, 2*len(numbers)+100)
	for i := range numbers {
		set(t, p, numbers[(i*5+3)%len(numbers)], "a", api.OK)
	}
	dirty(t, p, numbers...)
	for i := range 100 {
		put(t, p, 300+(i*37)%100, "a", api.OK)
	}
	dirty(t, p, numbers...)
	p.Clean()
	dirty(t, p)
	want := []int{}
	for i := range 100 {
		set(t, p, 300+(i*37)%100, "b", api.OK)
		want = append(want, 300+(i*37)%100)
		slices.Sort(want)
		dirty(t, p, want...)
	}
}

func TestDirtyIsNoUse(t *testing.T) {
	p := made(t, 3)
	put(t, p, 1, "a", api.OK)
	set(t, p, 2, "b", api.OK)
	put(t, p, 3, "c", api.OK)
	dirty(t, p, 2)
	dirty(t, p, 2)
	p.Clean()
	goes(t, p, 1, 2, 3)
}

func TestClean(t *testing.T) {
	p := made(t, 4)
	set(t, p, 1, "a", api.OK)
	put(t, p, 2, "b", api.OK)
	set(t, p, 3, "c", api.OK)
	set(t, p, 4, "d", api.OK)
	pin(t, p, 3, true)
	p.Clean()
	dirty(t, p)
	stand(t, p, 1, 2, 3, 4)
	put(t, p, 1, "x", api.ErrThere)
	p.Drop() // nothing is dirty
	stand(t, p, 1, 2, 3, 4)
	goes(t, p, 1, 2, 4) // the pin holds the frame 3
	get(t, p, 3, "c")
	unpin(t, p, 3, true)
	unpin(t, p, 3, false)
}

func TestCleanAndSetAgain(t *testing.T) {
	p := made(t, 2)
	set(t, p, 1, "a", api.OK)
	set(t, p, 2, "b", api.OK)
	p.Clean()
	set(t, p, 2, "c", api.OK)
	dirty(t, p, 2)
	put(t, p, 3, "d", api.OK)
	stand(t, p, 2, 3)
	put(t, p, 4, "e", api.OK)
	stand(t, p, 2, 4)
}

func TestDrop(t *testing.T) {
	p := made(t, 5)
	set(t, p, 1, "a", api.OK)
	put(t, p, 2, "b", api.OK)
	set(t, p, 3, "c", api.OK)
	put(t, p, 4, "d", api.OK)
	put(t, p, 5, "e", api.OK)
	set(t, p, 5, "f", api.OK)
	pin(t, p, 3, true) // pins don't keep what is dirty
	pin(t, p, 4, true)
	p.Drop()
	stand(t, p, 2, 4)
	dirty(t, p)
	for _, no := range []int{1, 3, 5} {
		absent(t, p, no)
		pin(t, p, no, false)
		unpin(t, p, no, false)
	}
	get(t, p, 2, "b")
	get(t, p, 4, "d")
	unpin(t, p, 2, false)
	unpin(t, p, 4, true) // the pins of what is clean are as they were
	unpin(t, p, 4, false)
	p.Drop()
	stand(t, p, 2, 4)
}

func TestDropMakesRoom(t *testing.T) {
	p := made(t, 3)
	for round := range 20 {
		for no := range 3 {
			set(t, p, round+no, "a", api.OK)
		}
		set(t, p, -1, "x", api.ErrFull)
		p.Drop()
		stand(t, p)
	}
}

func TestDropIsNoUse(t *testing.T) {
	p := made(t, 3)
	put(t, p, 1, "a", api.OK)
	set(t, p, 2, "b", api.OK)
	put(t, p, 3, "c", api.OK)
	p.Drop()
	put(t, p, 4, "d", api.OK)
	goes(t, p, 1, 3, 4)
}

// Promise 10.4: a nil pool.

func TestNilPool(t *testing.T) {
	var p *pool.Pool
	for _, no := range numbers {
		absent(t, p, no)
		put(t, p, no, "a", api.ErrArg)
		set(t, p, no, "a", api.ErrArg)
		pin(t, p, no, false)
		unpin(t, p, no, false)
	}
	p.Clean()
	p.Drop()
	stand(t, p)
	dirty(t, p)
}

// Promise 10.5: what holds over all calls.

// keeper is what keeps frames: the program, or the model.
type keeper interface {
	Get(no int) (string, bool)
	Put(no int, s string) api.Errno
	Set(no int, s string) api.Errno
	Pin(no int) bool
	Unpin(no int) bool
	Dirty() []int
	Clean()
	Drop()
	Len() int
}

// kept is a frame of the model.
type kept struct {
	no    int
	text  string
	dirty bool
	pins  int
}

// model is a pool as the chapter's words tell it: the one that was used least
// lately stands first.
type model struct {
	room   int
	frames []kept
}

func (m *model) at(no int) int {
	return slices.IndexFunc(m.frames, func(f kept) bool { return f.no == no })
}

func (m *model) toEnd(i int) *kept {
	f := m.frames[i]
	m.frames = append(slices.Delete(m.frames, i, i+1), f)
	return &m.frames[len(m.frames)-1]
}

func (m *model) Get(no int) (string, bool) {
	i := m.at(no)
	if i < 0 {
		return "", false
	}
	return m.toEnd(i).text, true
}

func (m *model) Put(no int, s string) api.Errno {
	if m.at(no) >= 0 {
		return api.ErrThere
	}
	if len(m.frames) == m.room {
		i := slices.IndexFunc(m.frames, func(f kept) bool { return !f.dirty && f.pins == 0 })
		if i < 0 {
			return api.ErrFull
		}
		m.frames = slices.Delete(m.frames, i, i+1)
	}
	m.frames = append(m.frames, kept{no: no, text: s})
	return api.OK
}

func (m *model) Set(no int, s string) api.Errno {
	if m.at(no) < 0 {
		if e := m.Put(no, s); e != api.OK {
			return e
		}
	}
	f := m.toEnd(m.at(no))
	f.text, f.dirty = s, true
	return api.OK
}

func (m *model) Pin(no int) bool {
	i := m.at(no)
	if i >= 0 {
		m.frames[i].pins++
	}
	return i >= 0
}

func (m *model) Unpin(no int) bool {
	i := m.at(no)
	if i < 0 || m.frames[i].pins == 0 {
		return false
	}
	m.frames[i].pins--
	return true
}

func (m *model) Dirty() []int {
	var out []int
	for _, f := range m.frames {
		if f.dirty {
			out = append(out, f.no)
		}
	}
	slices.Sort(out)
	return out
}

func (m *model) Clean() {
	for i := range m.frames {
		m.frames[i].dirty = false
	}
}

func (m *model) Drop() {
	m.frames = slices.DeleteFunc(m.frames, func(f kept) bool { return f.dirty })
}

func (m *model) Len() int { return len(m.frames) }

// call is one of the calls, by a number.
type call struct {
	kind, no int
	text     string
}

// The kinds of calls: those below onFrames have a frame's number.
const (
	toGet = iota
	toPut
	toSet
	toPin
	toUnpin
	onFrames
	toClean = onFrames
	toDrop  = onFrames + 1
)

// answer is what a call answers.
type answer struct {
	text string
	ok   bool
	e    api.Errno
}

// done answers what a call does.
func done(k keeper, c call) answer {
	var a answer
	switch c.kind {
	case toGet:
		a.text, a.ok = k.Get(c.no)
	case toPut:
		a.e = k.Put(c.no, c.text)
	case toSet:
		a.e = k.Set(c.no, c.text)
	case toPin:
		a.ok = k.Pin(c.no)
	case toUnpin:
		a.ok = k.Unpin(c.no)
	case toClean:
		k.Clean()
	case toDrop:
		k.Drop()
	}
	return a
}

// alike fails the test unless both answer the same to a call, and are then of
// the same frames, as far as can be told without a use.
func alike(t *testing.T, p *pool.Pool, m *model, calls []call) {
	t.Helper()
	last := calls[len(calls)-1]
	if got, want := done(p, last), done(m, last); got != want {
		t.Fatalf("%v: %v, not %v", calls, got, want)
	}
	if p.Len() != m.Len() || !slices.Equal(p.Dirty(), m.Dirty()) {
		t.Fatalf("%v: %d frames, dirty %v, not %d, %v", calls, p.Len(), p.Dirty(), m.Len(), m.Dirty())
	}
}

// alikeAtEnd fails the test unless both have the same frames, with the same
// texts and pins, and let them go in the same order.
func alikeAtEnd(t *testing.T, p *pool.Pool, m *model, calls []call) {
	t.Helper()
	calls = slices.Clone(calls)
	next := func(c call) {
		t.Helper()
		calls = append(calls, c)
		alike(t, p, m, calls)
	}
	next(call{kind: toClean})
	nos := []int{}
	for _, f := range m.frames {
		nos = append(nos, f.no)
		for range f.pins + 1 {
			next(call{toUnpin, f.no, ""})
		}
	}
	for i := range m.room {
		next(call{toPut, go1 + i, "new"})
		for _, no := range nos {
			next(call{toPin, no, ""})
			next(call{toUnpin, no, ""})
		}
	}
	for i := range m.room {
		next(call{toGet, go1 + i, ""})
	}
}

func TestAllShortRowsOfCalls(t *testing.T) {
	var all []call
	for no := range 3 {
		for kind := range onFrames {
			all = append(all, call{kind, no, string([]byte{byte('a' + no)})})
		}
	}
	all = append(all, call{kind: toClean}, call{kind: toDrop})
	for i, length := range []int{4, 4, 3} { // of the rows, by the pools' rooms
		room := 1 + i
		var from func(calls []call)
		from = func(calls []call) {
			if len(calls) == length {
				p, m := made(t, room), &model{room: room}
				for i := range calls {
					calls[i].text += string([]byte{byte('0' + i)})
					alike(t, p, m, calls[:i+1])
				}
				alikeAtEnd(t, p, m, calls)
				return
			}
			for _, c := range all {
				from(append(slices.Clone(calls), c))
			}
		}
		from(nil)
	}
}

// mixed answers n calls that follow from the seed, on frames of so many numbers.
func mixed(seed uint64, n, numbers int) []call {
	out := make([]call, n)
	for i := range out {
		seed = seed*6364136223846793005 + 1442695040888963407
		x := int(seed >> 33)
		kind := x % 64
		if kind >= 62 {
			kind += toClean - 62
		} else {
			kind %= onFrames
		}
		out[i] = call{kind, x / 64 % numbers, string([]byte{byte(x >> 16), byte(i), byte(i >> 8)})}
	}
	return out
}

func TestMixedRowsOfCalls(t *testing.T) {
	for seed := range uint64(400) {
		room := 1 + int(seed)%12
		calls := mixed(seed, 600, 1+room*(2+int(seed)%3)/2)
		p, m := made(t, room), &model{room: room}
		for i := range calls {
			alike(t, p, m, calls[:i+1])
		}
		alikeAtEnd(t, p, m, calls)
	}
}

func TestMixedRowsInALargePool(t *testing.T) {
	const room = 300
	calls := mixed(7, 20000, 500)
	p, m := made(t, room), &model{room: room}
	for i, c := range calls {
		if got, want := done(p, c), done(m, c); got != want {
			t.Fatalf("call %d, %v: %v, not %v", i, c, got, want)
		}
	}
	alikeAtEnd(t, p, m, calls[:1])
}

// What is dirty or pinned is there, by the calls alone that let it go.
func TestWhatIsHeldIsThere(t *testing.T) {
	for seed := range uint64(200) {
		room := 1 + int(seed)%7
		p := made(t, room)
		pins, changed, texts := map[int]int{}, map[int]bool{}, map[int]string{}
		for _, c := range mixed(seed+1000, 400, 2*room+1) {
			a := done(p, c)
			switch {
			case c.kind == toPut && a.e == api.OK, c.kind == toSet && a.e == api.OK:
				texts[c.no] = c.text
				if c.kind == toSet {
					changed[c.no] = true
				}
			case c.kind == toGet && a.ok && a.text != texts[c.no]:
				t.Fatalf("Get(%d) = %q, not what was set last, %q", c.no, a.text, texts[c.no])
			case c.kind == toPin && a.ok:
				pins[c.no]++
			case c.kind == toUnpin && a.ok:
				pins[c.no]--
			case c.kind == toClean:
				clear(changed)
			case c.kind == toDrop:
				for no := range changed {
					delete(pins, no)
				}
				clear(changed)
			}
			if p.Len() > room {
				t.Fatalf("%d frames, of room %d", p.Len(), room)
			}
			for no := range 2*room + 1 {
				if (pins[no] > 0 || changed[no]) && !isThere(t, p, no) {
					t.Fatalf("behind %v the frame %d is gone, with %d pins, dirty: %v", c, no, pins[no], changed[no])
				}
			}
		}
	}
}

// Example 1.
func TestExample(t *testing.T) {
	p := made(t, 2)
	put(t, p, 1, "a", api.OK)
	put(t, p, 2, "b", api.OK)
	get(t, p, 1, "a")
	put(t, p, 3, "c", api.OK)
	absent(t, p, 2)
	set(t, p, 1, "x", api.OK)
	set(t, p, 3, "y", api.OK)
	put(t, p, 4, "d", api.ErrFull)
	stand(t, p, 1, 3)
}

// Rule 4: what is handed in isn't kept, what is handed out is new.

func TestTextsHandedInAreNotKept(t *testing.T) {
	p := made(t, 3)
	put(t, p, 2, "c", api.OK) // which a Set changes
	for no, lay := range []func(p *pool.Pool, no int, s string) api.Errno{(*pool.Pool).Put, (*pool.Pool).Set, (*pool.Pool).Set} {
		raw := []byte("a text")
		if e := lay(p, no, unsafe.String(&raw[0], len(raw))); e != api.OK {
			t.Fatalf("Put or Set(%d) = %d", no, e)
		}
		for i := range raw {
			raw[i] = 'x'
		}
		get(t, p, no, "a text")
	}
}

func TestTextsHandedOutAreNew(t *testing.T) {
	p := made(t, 2)
	given := strings.Repeat("a", api.Page)
	put(t, p, 1, given, api.OK)
	set(t, p, 2, given, api.OK)
	seen := map[*byte]bool{unsafe.StringData(given): true}
	for i := range 10 {
		s, ok := p.Get(1 + i%2)
		if !ok || seen[unsafe.StringData(s)] {
			t.Fatalf("Get %d is there: %v, or shares its memory", i, ok)
		}
		seen[unsafe.StringData(s)] = true
	}
}

func TestListsHandedOutAreNew(t *testing.T) {
	p := made(t, 6)
	for no := range 5 {
		set(t, p, no, "a", api.OK)
	}
	first, second := p.Dirty(), p.Dirty()
	for i := range first[:cap(first)] {
		first[:cap(first)][i] = 77
	}
	if !slices.Equal(second, []int{0, 1, 2, 3, 4}) {
		t.Errorf("two lists share their memory: %v", second)
	}
	dirty(t, p, 0, 1, 2, 3, 4)
	absent(t, p, 77)
}

// Rule 6: answers hang on nothing but the calls.
func TestTheSameCallsAnswerTheSame(t *testing.T) {
	calls := mixed(3, 500, 40)
	run := func() []answer {
		p := made(t, 25)
		var out []answer
		for _, c := range calls {
			out = append(out, done(p, c))
		}
		return out
	}
	want := run()
	for range 20 {
		if !slices.Equal(run(), want) {
			t.Fatal("the same calls answer otherwise")
		}
	}
}
