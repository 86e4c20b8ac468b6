package slot_test

import (
	"math"
	"slices"
	"strings"
	"testing"
	"unsafe"

	"croft/api"
	"croft/slot"
)

// stir answers n bytes that follow from the seed alone, with no pattern in them.
func stir(seed uint64, n int) string {
	out := make([]byte, n)
	for i := range out {
		seed = seed*6364136223846793005 + 1442695040888963407
		out[i] = byte(seed >> 56)
	}
	return string(out)
}

// noughts are n bytes 00.
func noughts(n int) string { return strings.Repeat("\x00", n) }

// filled are the bytes with bytes 00 behind them, up to 496.
func filled(s string) string { return s + noughts(496-len(s)) }

// two are the two bytes of a number, told without the program.
func two(n int) string { return string([]byte{byte(n % 256), byte(n / 256)}) }

// used answers slots with these records.
func used(recs ...string) []slot.Slot {
	var out []slot.Slot
	for _, s := range recs {
		out = append(out, slot.Slot{Used: true, Rec: s})
	}
	return out
}

// empties answers n empty slots.
func empties(n int) []slot.Slot { return make([]slot.Slot, n) }

// joined are lists of slots, one behind the other.
func joined(lists ...[]slot.Slot) []slot.Slot { return slices.Concat(lists...) }

// raw are the bytes that tell slots, right or not, without the bytes 00 behind;
// told without the program.
func raw(l []slot.Slot) string {
	out := two(len(l))
	for _, s := range l {
		if s.Used {
			out += two(len(s.Rec) + 1)
		} else {
			out += "\x00\x00"
		}
	}
	for _, s := range l {
		out += s.Rec
	}
	return out
}

// told are the slots that a room tells, read byte by byte without the program;
// false, if it isn't right.
func told(room string) ([]slot.Slot, bool) {
	if len(room) != 496 {
		return nil, false
	}
	rest := room
	take := func(n int) (string, bool) {
		if n > len(rest) {
			return "", false
		}
		s := rest[:n]
		rest = rest[n:]
		return s, true
	}
	takeNumber := func() (int, bool) {
		s, ok := take(2)
		if !ok {
			return 0, false
		}
		return int(s[1])*256 + int(s[0]), true
	}
	count, _ := takeNumber()
	var sizes []int
	for range count {
		n, ok := takeNumber()
		if !ok {
			return nil, false
		}
		sizes = append(sizes, n)
	}
	var out []slot.Slot
	for _, n := range sizes {
		if n == 0 {
			out = append(out, slot.Slot{})
			continue
		}
		s, ok := take(n - 1)
		if !ok {
			return nil, false
		}
		out = append(out, slot.Slot{Used: true, Rec: s})
	}
	for i := range len(rest) {
		if rest[i] != 0 {
			return nil, false
		}
	}
	return out, count == 0 || sizes[count-1] != 0
}

// pack answers the room of slots, and fails the test where there is none.
func pack(t *testing.T, l []slot.Slot) string {
	t.Helper()
	s, e := slot.Pack(l)
	if e != api.OK {
		t.Fatalf("Pack of %d slots: %d", len(l), e)
	}
	return s
}

// packs fails the test unless the room of given slots is that of these, as the
// chapter tells it, and is read as these.
func packs(t *testing.T, given, want []slot.Slot) {
	t.Helper()
	room := filled(raw(want))
	if s, e := slot.Pack(given); s != room || e != api.OK {
		t.Errorf("Pack of %d slots = %q, %d, not %q", len(given), s, e, room)
	}
	reads(t, room, want)
}

// packsNot fails the test unless Pack answers that error and nothing else.
func packsNot(t *testing.T, l []slot.Slot, want api.Errno) {
	t.Helper()
	if s, e := slot.Pack(l); s != "" || e != want {
		t.Errorf("Pack of %d slots = %d bytes, %d, not the error %d", len(l), len(s), e, want)
	}
}

// reads fails the test unless the room has just these slots.
func reads(t *testing.T, room string, want []slot.Slot) {
	t.Helper()
	if l, e := slot.Read(room); !slices.Equal(l, want) || e != api.OK {
		t.Errorf("Read(%q) = %v, %d, not %v", room, l, e, want)
	}
}

// wrong fails the test unless all calls tell that the room isn't right, ahead of
// whatever else they might tell.
func wrong(t *testing.T, room string) {
	t.Helper()
	if l, e := slot.Read(room); len(l) != 0 || e != api.ErrForm {
		t.Errorf("Read(%q) = %v, %d", room, l, e)
	}
	for _, i := range []int{0, 1, -1, 247, math.MaxInt, math.MinInt} {
		if s, e := slot.Get(room, i); s != "" || e != api.ErrForm {
			t.Errorf("Get(%q, %d) = %q, %d", room, i, s, e)
		}
		if s, e := slot.Del(room, i); s != "" || e != api.ErrForm {
			t.Errorf("Del(%q, %d) = %q, %d", room, i, s, e)
		}
		for _, rec := range []string{"", "a", noughts(497)} {
			if s, e := slot.Set(room, i, rec); s != "" || e != api.ErrForm {
				t.Errorf("Set(%q, %d, %d bytes) = %q, %d", room, i, len(rec), s, e)
			}
		}
	}
	for _, rec := range []string{"", "a", noughts(497)} {
		if s, i, e := slot.Add(room, rec); s != "" || i != 0 || e != api.ErrForm {
			t.Errorf("Add(%q, %d bytes) = %q, %d, %d", room, len(rec), s, i, e)
		}
	}
	if n := slot.Left(room); n != -1 {
		t.Errorf("Left(%q) = %d", room, n)
	}
}

// holds fails the test unless the slot has that record.
func holds(t *testing.T, room string, i int, want string) {
	t.Helper()
	if s, e := slot.Get(room, i); s != want || e != api.OK {
		t.Errorf("Get(%q, %d) = %q, %d, not %q", room, i, s, e, want)
	}
}

// lacks fails the test unless the room has no record in that slot.
func lacks(t *testing.T, room string, i int) {
	t.Helper()
	if s, e := slot.Get(room, i); s != "" || e != api.ErrNone {
		t.Errorf("Get(%q, %d) = %q, %d", room, i, s, e)
	}
	if s, e := slot.Del(room, i); s != "" || e != api.ErrNone {
		t.Errorf("Del(%q, %d) = %q, %d", room, i, s, e)
	}
	for _, rec := range []string{"", "a", noughts(497)} {
		if s, e := slot.Set(room, i, rec); s != "" || e != api.ErrNone {
			t.Errorf("Set(%q, %d, %d bytes) = %q, %d", room, i, len(rec), s, e)
		}
	}
}

// adds fails the test unless the record goes into that slot, and the room has
// these slots then; it answers the room.
func adds(t *testing.T, room, rec string, at int, want []slot.Slot) string {
	t.Helper()
	s, i, e := slot.Add(room, rec)
	if next := filled(raw(want)); s != next || i != at || e != api.OK {
		t.Fatalf("Add(%q, %q) = %q, %d, %d, not %q, %d", room, rec, s, i, e, next, at)
	}
	return s
}

// addsNot fails the test unless the record doesn't go into the room.
func addsNot(t *testing.T, room, rec string) {
	t.Helper()
	if s, i, e := slot.Add(room, rec); s != "" || i != 0 || e != api.ErrFull {
		t.Errorf("Add(%q, %d bytes) = %q, %d, %d", room, len(rec), s, i, e)
	}
}

// sets fails the test unless the room has these slots behind a Set; it answers
// the room.
func sets(t *testing.T, room string, i int, rec string, want []slot.Slot) string {
	t.Helper()
	s, e := slot.Set(room, i, rec)
	if next := filled(raw(want)); s != next || e != api.OK {
		t.Fatalf("Set(%q, %d, %q) = %q, %d, not %q", room, i, rec, s, e, next)
	}
	return s
}

// setsNot fails the test unless the record doesn't go into the slot.
func setsNot(t *testing.T, room string, i int, rec string) {
	t.Helper()
	if s, e := slot.Set(room, i, rec); s != "" || e != api.ErrFull {
		t.Errorf("Set(%q, %d, %d bytes) = %q, %d", room, i, len(rec), s, e)
	}
}

// dels fails the test unless the room has these slots behind a Del; it answers
// the room.
func dels(t *testing.T, room string, i int, want []slot.Slot) string {
	t.Helper()
	s, e := slot.Del(room, i)
	if next := filled(raw(want)); s != next || e != api.OK {
		t.Fatalf("Del(%q, %d) = %q, %d, not %q", room, i, s, e, next)
	}
	return s
}

// full are slots that take all 496 bytes of a room, in chosen shapes.
func full() [][]slot.Slot {
	return [][]slot.Slot{
		used(stir(1, 492)),
		used(noughts(492)),
		used(stir(2, 245), stir(3, 245)),
		used("", stir(4, 490)),
		used(stir(5, 490), ""),
		joined(empties(1), used(stir(6, 490))),
		joined(used(stir(7, 200)), empties(3), used(stir(8, 284))),
		joined(empties(245), used("\x00\x01")),
		used(make([]string, 247)...),
		joined(empties(246), used("")),
		joined(empties(100), used(make([]string, 147)...)),
	}
}

// rooms are slots as a room may have them, in chosen shapes.
func rooms() [][]slot.Slot {
	out := [][]slot.Slot{
		nil,
		used(""),
		used("a"),
		used("\x00"),
		used("ab", "", "ccc"),
		used("", "", ""),
		joined(empties(1), used("a")),
		joined(empties(2), used("")),
		joined(used("a"), empties(1), used("bb")),
		joined(used(""), empties(2), used("bb"), empties(1), used("\x00\x00")),
		used(stir(9, 254), stir(10, 1)),
		used(stir(11, 255)),
		used(stir(12, 256), "\x01"),
		used(stir(13, 491)),
		used(stir(14, 490)),
		used(stir(15, 244), stir(16, 245)),
		joined(empties(244), used("xyz")),
		joined(empties(245), used("")),
		used(make([]string, 246)...),
	}
	return append(out, full()...)
}

// Promise 12.1: Empty, Read, Pack.

func TestEmpty(t *testing.T) {
	if s := slot.Empty(); s != noughts(496) {
		t.Errorf("Empty = %q", s)
	}
	reads(t, slot.Empty(), nil)
	packs(t, nil, nil)
	packs(t, []slot.Slot{}, nil)
}

func TestGivenRooms(t *testing.T) {
	for _, c := range []struct {
		slots []slot.Slot
		room  string
	}{
		{nil, noughts(496)},
		{used("ab"), "\x01\x00\x03\x00ab" + noughts(490)},
		{used(""), "\x01\x00\x01\x00" + noughts(492)},
		{used("\x00"), "\x01\x00\x02\x00" + noughts(492)},
		{used("a", "", "ccc"), "\x03\x00\x02\x00\x01\x00\x04\x00accc" + noughts(484)},
		{joined(empties(1), used("b")), "\x02\x00\x00\x00\x02\x00b" + noughts(489)},
		{used(strings.Repeat("x", 255)), "\x01\x00\x00\x01" + strings.Repeat("x", 255) + noughts(237)},
		{used(strings.Repeat("x", 492)), "\x01\x00\xed\x01" + strings.Repeat("x", 492)},
		{used(make([]string, 247)...), "\xf7\x00" + strings.Repeat("\x01\x00", 247)},
		{joined(empties(246), used("")), "\xf7\x00" + noughts(492) + "\x01\x00"},
	} {
		if s, e := slot.Pack(c.slots); s != c.room || e != api.OK {
			t.Errorf("Pack(%v) = %q, %d, not %q", c.slots, s, e, c.room)
		}
		reads(t, c.room, c.slots)
	}
}

func TestPackOfRooms(t *testing.T) {
	for _, l := range rooms() {
		packs(t, l, l)
	}
}

func TestPackOfAllLengths(t *testing.T) {
	for n := range 493 {
		packs(t, used(stir(uint64(n), n)), used(stir(uint64(n), n)))
		packs(t, used(noughts(n)), used(noughts(n)))
	}
}

func TestPackLeavesEmptyOnesAtTheEndOut(t *testing.T) {
	for _, l := range rooms() {
		for _, n := range []int{1, 2, 3, 246, 247, 248, 65535, 65536, 65537} {
			packs(t, joined(l, empties(n)), l)
		}
	}
	packs(t, joined(used("a"), empties(1<<20)), used("a"))
}

func TestPackOfTooMuch(t *testing.T) {
	for _, l := range full() {
		// A byte more in any slot, an empty slot more ahead of it, or one behind it
		// that has a record.
		for i := range l {
			if !l[i].Used {
				continue
			}
			longer := slices.Clone(l)
			longer[i].Rec += "\x00"
			packsNot(t, longer, api.ErrFull)
			packsNot(t, joined(longer, empties(1)), api.ErrFull)
			packsNot(t, slices.Insert(slices.Clone(l), i, slot.Slot{}), api.ErrFull)
		}
		packsNot(t, joined(l, used("")), api.ErrFull)
		packsNot(t, joined(l, empties(1), used("")), api.ErrFull)
	}
	for _, n := range []int{493, 494, 495, 496, 497, 512, 65534, 65535, 65536, 65536 + 492, 1 << 24} {
		packsNot(t, used(noughts(n)), api.ErrFull)
		packsNot(t, used("", noughts(n), ""), api.ErrFull)
	}
	for _, n := range []int{248, 249, 256, 65535, 65536, 65537, 65536 + 247} {
		packsNot(t, used(make([]string, n)...), api.ErrFull)
		packsNot(t, joined(empties(n-1), used("")), api.ErrFull)
	}
}

func TestPackOfEmptyOnesWithARecord(t *testing.T) {
	for _, rec := range []string{"a", "\x00", noughts(493), stir(1, 70000)} {
		bad := []slot.Slot{{Rec: rec}}
		packsNot(t, bad, api.ErrForm)
		packsNot(t, joined(bad, used("a")), api.ErrForm)
		packsNot(t, joined(used("a"), bad), api.ErrForm)
		packsNot(t, joined(used("a"), bad, empties(3)), api.ErrForm)
		packsNot(t, joined(used("a"), empties(3), bad), api.ErrForm)
		// Also where they don't go into a room.
		for _, l := range full() {
			packsNot(t, joined(l, bad), api.ErrForm)
			packsNot(t, joined(bad, l), api.ErrForm)
			packsNot(t, joined(l, used("x"), bad), api.ErrForm)
		}
		packsNot(t, joined(used(noughts(493)), bad), api.ErrForm)
		packsNot(t, joined(used(make([]string, 248)...), bad), api.ErrForm)
	}
}

func TestOtherLengthsAreNoRoom(t *testing.T) {
	for _, l := range rooms() {
		s := filled(raw(l))
		for _, n := range []int{0, 1, 2, 3, 4, 248, 494, 495} {
			wrong(t, s[:n])
		}
		wrong(t, s+"\x00")
		wrong(t, s+"\x00\x00")
		wrong(t, s+noughts(16))
		wrong(t, "\x00"+s)
		wrong(t, s+s)
	}
	wrong(t, noughts(65536+496))
	// As long as it would have to be, but for what its slots tell.
	wrong(t, raw(used(stir(1, 493))))
	wrong(t, raw(used("ab")))
}

func TestWrongRooms(t *testing.T) {
	for _, s := range []string{
		"\x01",             // one slot, and it is empty
		"\x02\x00\x02\x00", // the last one is empty
		"\x02\x00\x02\x00\x00\x00a",
		"\x03\x00\x02\x00\x00\x00\x00\x00a",
		"\xf7",                         // 247 empty ones
		"\xf8",                         // the numbers of 248 don't go into a room
		"\xf7\x01",                     // nor those of 503
		"\x00\x01",                     // nor those of 256
		"\xff\xff",                     // nor these
		"\x00\x00\x01",                 // a byte behind no slots
		"\x00\x00\x03\x00ab",           // a slot that isn't counted
		"\x01\x00\x03\x00abc",          // a byte behind the record
		"\x01\x00\x03\x00ab\x00c",      // and one behind a byte 00
		"\x01\x00\x01\x00a",            // a byte behind a record of none
		"\x02\x00\x00\x00\x01\x00a",    // and behind two slots
		"\x01\x00\xee\x01",             // a record of 493 bytes
		"\x01\x00\x00\x02",             // of 511
		"\x01\x00\x01\x02",             // of 512
		"\x01\x00\xff\xff",             // of 65534
		"\x02\x00\xec\x01\x01\x00",     // the first slot's record goes beyond the end
		"\x02\x00\x01\x00\xec\x01",     // the second one's
		"\x02\x00\xf6\x00\xf7\x00",     // both of them together: 245 and 246 bytes
		"\x02\x00\xff\xff\xff\xff",     // both of them, by far
		"\x03\x00\x02\x00\xff\xff\x01", // one in the midst
		"\x03\x00\xff\xff\x00\x00\x02", // one ahead of an empty one
		"\x02\x00\xff\xff\x02\x00a",    // one ahead of a short one
	} {
		wrong(t, filled(s))
	}
	wrong(t, strings.Repeat("\xff", 496))
	wrong(t, noughts(495)+"\x01")
	wrong(t, "\xf8\x00"+strings.Repeat("\x01\x00", 247))
	wrong(t, "\xf7\x00"+strings.Repeat("\x01\x00", 246)+"\x02\x00") // a record of one byte, with no room for it
	wrong(t, "\xf7\x00"+strings.Repeat("\x01\x00", 246)+"\x00\x00")
	wrong(t, "\xf7\x00\x02\x00"+strings.Repeat("\x01\x00", 246))
}

// agrees fails the test unless the room is read as it is told.
func agrees(t *testing.T, room string) {
	t.Helper()
	want, ok := told(room)
	l, e := slot.Read(room)
	switch {
	case ok && (e != api.OK || !slices.Equal(l, want)):
		t.Fatalf("Read(%q) = %v, %d, not %v", room, l, e, want)
	case ok && slot.Left(room) < -1:
		t.Fatalf("Left(%q) = %d", room, slot.Left(room))
	case !ok && (e != api.ErrForm || len(l) != 0 || slot.Left(room) != -1):
		t.Fatalf("Read(%q) = %v, %d, though it isn't right", room, l, e)
	case ok && filled(raw(want)) != room:
		t.Fatalf("%q is told as %v, whose room is another one", room, want)
	}
}

func TestReadWithATurnedByte(t *testing.T) {
	for _, l := range rooms() {
		s := filled(raw(l))
		for at := range s {
			// All values of what tells most, some of all else.
			for _, b := range []byte{0, 1, 2, 0x80, 0xff, s[at] + 1, s[at] - 1} {
				agrees(t, s[:at]+string([]byte{b})+s[at+1:])
			}
			if at > 8 {
				continue
			}
			for b := range 256 {
				agrees(t, s[:at]+string([]byte{byte(b)})+s[at+1:])
			}
		}
	}
}

func TestReadOfAllCountsAndLengths(t *testing.T) {
	for n := range 1 << 16 {
		agrees(t, filled(two(n)))
		agrees(t, two(n)+strings.Repeat("\x01\x00", 247))
		agrees(t, filled("\x01\x00"+two(n)))
		agrees(t, "\x01\x00"+two(n)+strings.Repeat("x", 492))
		agrees(t, filled("\x02\x00\x02\x00"+two(n)+"x"))
		agrees(t, filled("\x02\x00"+two(n)+"\x02\x00"))
	}
}

func TestReadOfAllShortBeginnings(t *testing.T) {
	values := []byte{0, 1, 2, 3, 0xff}
	n := 1
	for range 7 {
		n *= len(values)
	}
	for k := range n {
		var s []byte
		for range 7 {
			s = append(s, values[k%len(values)])
			k /= len(values)
		}
		agrees(t, filled(string(s)))
	}
}

// Promise 12.2: Get, Add, Set, Del.

func TestGetOfAllSlots(t *testing.T) {
	for _, l := range rooms() {
		s := filled(raw(l))
		for i, one := range l {
			if one.Used {
				holds(t, s, i, one.Rec)
			} else {
				lacks(t, s, i)
			}
		}
		for _, i := range []int{-1, -2, len(l), len(l) + 1, 247, 248, 65535, 65536, 1 << 32, math.MinInt, math.MinInt32, math.MaxInt32, math.MaxInt} {
			if i < 0 || i >= len(l) {
				lacks(t, s, i)
			}
		}
	}
}

func TestTheExample(t *testing.T) {
	s, i, e := slot.Add(slot.Empty(), "ab")
	if s != "\x01\x00\x03\x00ab"+noughts(490) || i != 0 || e != api.OK {
		t.Errorf("Add = %q, %d, %d", s, i, e)
	}
	if n := slot.Left(slot.Empty()); n != 492 {
		t.Errorf("Left = %d", n)
	}
}

func TestAddTakesOneMore(t *testing.T) {
	room, recs := slot.Empty(), []string{}
	for i, rec := range []string{"a", "", "ccc", "\x00", "", stir(1, 300)} {
		recs = append(recs, rec)
		room = adds(t, room, rec, i, used(recs...))
	}
}

func TestAddTakesTheFirstEmptyOne(t *testing.T) {
	room := pack(t, joined(used("a"), empties(2), used("bb"), empties(1), used("c")))
	room = adds(t, room, "x", 1, joined(used("a", "x"), empties(1), used("bb"), empties(1), used("c")))
	room = adds(t, room, "", 2, joined(used("a", "x", "", "bb"), empties(1), used("c")))
	room = adds(t, room, "yyy", 4, used("a", "x", "", "bb", "yyy", "c"))
	room = adds(t, room, "z", 6, used("a", "x", "", "bb", "yyy", "c", "z"))
	// The first slot of all, too; and one with a record of no bytes isn't empty.
	room = dels(t, room, 0, joined(empties(1), used("x", "", "bb", "yyy", "c", "z")))
	room = dels(t, room, 6, joined(empties(1), used("x", "", "bb", "yyy", "c")))
	room = adds(t, room, "q", 0, used("q", "x", "", "bb", "yyy", "c"))
	adds(t, room, "", 6, used("q", "x", "", "bb", "yyy", "c", ""))
}

func TestAddWhereThereIsNoRoom(t *testing.T) {
	for _, l := range full() {
		room := pack(t, l)
		i := slices.Index(l, slot.Slot{})
		if i < 0 {
			addsNot(t, room, "")
		} else {
			// The slot's number stands there already.
			want := slices.Clone(l)
			want[i].Used = true
			adds(t, room, "", i, want)
		}
		for _, n := range []int{1, 2, 492, 493, 496, 65534, 65535, 65536, 1 << 20} {
			addsNot(t, room, noughts(n))
		}
	}
	addsNot(t, slot.Empty(), noughts(493))
	addsNot(t, slot.Empty(), noughts(65535))
	addsNot(t, slot.Empty(), noughts(65536))
	addsNot(t, slot.Empty(), noughts(65536+10))
	adds(t, slot.Empty(), stir(1, 492), 0, used(stir(1, 492)))
}

func TestAddOfSoManyAsThereAreNumbersFor(t *testing.T) {
	room, recs := slot.Empty(), []string{}
	for i := range 247 {
		recs = append(recs, "")
		room = adds(t, room, "", i, used(recs...))
	}
	addsNot(t, room, "")
	room = dels(t, room, 100, joined(used(recs[:100]...), empties(1), used(recs[101:]...)))
	addsNot(t, room, "a")
	adds(t, room, "", 100, used(recs...))
}

func TestSet(t *testing.T) {
	room := pack(t, joined(used("a", ""), empties(1), used("ccc")))
	room = sets(t, room, 0, "long", joined(used("long", ""), empties(1), used("ccc")))
	room = sets(t, room, 1, "b", joined(used("long", "b"), empties(1), used("ccc")))
	room = sets(t, room, 3, "", joined(used("long", "b"), empties(1), used("")))
	room = sets(t, room, 3, "", joined(used("long", "b"), empties(1), used("")))
	lacks(t, room, 2)
	room = sets(t, room, 0, "", joined(used("", "b"), empties(1), used("")))
	room = sets(t, room, 0, "\x00", joined(used("\x00", "b"), empties(1), used("")))
	sets(t, room, 3, stir(1, 484), joined(used("\x00", "b"), empties(1), used(stir(1, 484))))
	setsNot(t, room, 3, stir(1, 485))
	setsNot(t, room, 0, stir(1, 486))
	sets(t, room, 0, stir(1, 485), joined(used(stir(1, 485), "b"), empties(1), used("")))
}

func TestSetGoesByWhatTheRoomHasThen(t *testing.T) {
	for _, l := range full() {
		room := pack(t, l)
		for i, one := range l {
			if !one.Used {
				continue
			}
			// As long a record as before goes, and none that is longer.
			want := slices.Clone(l)
			want[i].Rec = stir(77, len(one.Rec))
			sets(t, room, i, want[i].Rec, want)
			for _, n := range []int{len(one.Rec) + 1, len(one.Rec) + 2, 493, 65534, 65535, 65536} {
				setsNot(t, room, i, noughts(n))
			}
			want[i].Rec = ""
			sets(t, room, i, "", want)
		}
	}
}

func TestDel(t *testing.T) {
	room := pack(t, used("a", "", "ccc", "", "e"))
	room = dels(t, room, 1, joined(used("a"), empties(1), used("ccc", "", "e")))
	lacks(t, room, 1)
	room = dels(t, room, 3, joined(used("a"), empties(1), used("ccc"), empties(1), used("e")))
	room = dels(t, room, 0, joined(empties(2), used("ccc"), empties(1), used("e")))
	room = dels(t, room, 4, joined(empties(2), used("ccc")))
	room = dels(t, room, 2, nil)
	lacks(t, room, 0)
	if room != slot.Empty() {
		t.Errorf("the room of nothing is %q", room)
	}
}

func TestDelLetsAllEmptyOnesAtTheEndGo(t *testing.T) {
	for n := range 247 {
		room := pack(t, joined(empties(n), used("")))
		dels(t, room, n, nil)
		if n > 0 {
			room = adds(t, room, "", 0, joined(used(""), empties(n-1), used("")))
			dels(t, room, n, used(""))
		}
	}
}

func TestDelOfAllSlots(t *testing.T) {
	for _, l := range rooms() {
		room := pack(t, l)
		for i, one := range l {
			if !one.Used {
				continue
			}
			want := slices.Clone(l)
			want[i] = slot.Slot{}
			for len(want) > 0 && !want[len(want)-1].Used {
				want = want[:len(want)-1]
			}
			lacks(t, dels(t, room, i, want), i)
		}
	}
}

// Promise 12.3: Left.

func TestLeftOfGivenRooms(t *testing.T) {
	for _, c := range []struct {
		slots []slot.Slot
		want  int
	}{
		{nil, 492},
		{used(""), 490},
		{used("a", "", "ccc"), 482},
		{joined(empties(1), used("", "ccc")), 485},
		{used(stir(1, 489)), 1},
		{used(stir(1, 490)), 0},  // just its number goes
		{used(stir(1, 491)), -1}, // not even that
		{used(stir(1, 492)), -1},
		{joined(empties(1), used(stir(1, 488))), 2},
		{joined(empties(1), used(stir(1, 489))), 1},
		{joined(empties(1), used(stir(1, 490))), 0}, // its number stands there already
		{used(make([]string, 245)...), 2},
		{used(make([]string, 246)...), 0},
		{used(make([]string, 247)...), -1},
		{joined(empties(246), used("")), 0},
		{joined(empties(245), used("")), 2},
		{joined(empties(244), used("x")), 3},
	} {
		if n := slot.Left(pack(t, c.slots)); n != c.want {
			t.Errorf("Left(%q) = %d, not %d", raw(c.slots), n, c.want)
		}
	}
}

// leaves fails the test unless a record of as many bytes as Left tells goes into
// the room, and none that is longer.
func leaves(t *testing.T, room string) {
	t.Helper()
	n := slot.Left(room)
	if n < -1 || n > 492 {
		t.Fatalf("Left(%q) = %d", room, n)
	}
	addsNot(t, room, noughts(n+1))
	if n >= 0 {
		s, i, e := slot.Add(room, stir(1, n))
		if e != api.OK {
			t.Fatalf("Add(%q, %d bytes) = %d", room, n, e)
		}
		holds(t, s, i, stir(1, n))
	}
}

func TestLeftIsTheMost(t *testing.T) {
	for _, l := range rooms() {
		leaves(t, pack(t, l))
	}
	for n := range 493 {
		leaves(t, pack(t, used(noughts(n))))
		if n <= 490 {
			leaves(t, pack(t, joined(empties(1), used(noughts(n)))))
			leaves(t, pack(t, used("", noughts(n))))
		}
	}
	for n := range 247 {
		leaves(t, pack(t, used(make([]string, n)...)))
		leaves(t, pack(t, joined(empties(n), used(""))))
	}
}

// Promise 12.4: what was added is got till it is set or deleted.

// model is what a room's slots have.
type model struct {
	recs map[int]string
}

// slots are those of the model, up to the last one that has a record.
func (m model) slots() []slot.Slot {
	most := -1
	for i := range m.recs {
		most = max(most, i)
	}
	out := empties(most + 1)
	for i, s := range m.recs {
		out[i] = slot.Slot{Used: true, Rec: s}
	}
	return out
}

// goesIn tells whether the model with that record goes into a room.
func (m model) goesIn(i int, rec string) bool {
	old, ok := m.recs[i]
	m.recs[i] = rec
	n := len(raw(m.slots()))
	delete(m.recs, i)
	if ok {
		m.recs[i] = old
	}
	return n <= 496
}

// free is the first slot without a record.
func (m model) free() int {
	for i := 0; ; i++ {
		if _, ok := m.recs[i]; !ok {
			return i
		}
	}
}

// step does one call on the room and on the model, and answers the room then.
func (m model) step(t *testing.T, room string, kind, i int, rec string) string {
	t.Helper()
	_, there := m.recs[i]
	next, e, want := "", api.OK, api.OK
	switch {
	case kind < 4:
		i = m.free()
		at := 0
		next, at, e = slot.Add(room, rec)
		switch {
		case !m.goesIn(i, rec):
			i, want = 0, api.ErrFull
		default:
			m.recs[i] = rec
		}
		if at != i {
			t.Fatalf("Add took the slot %d, not %d", at, i)
		}
	case kind < 6:
		next, e = slot.Set(room, i, rec)
		switch {
		case !there:
			want = api.ErrNone
		case !m.goesIn(i, rec):
			want = api.ErrFull
		default:
			m.recs[i] = rec
		}
	default:
		next, e = slot.Del(room, i)
		if !there {
			want = api.ErrNone
		}
		delete(m.recs, i)
	}
	if e != want {
		t.Fatalf("a call of the kind %d = %d, not %d", kind, e, want)
	}
	if e != api.OK {
		if next != "" {
			t.Fatalf("a room beside the error %d", e)
		}
		return room
	}
	return next
}

func TestMixedRowsOfCalls(t *testing.T) {
	for seed := range uint64(25) {
		// Records of none, up to 3, 40, 200 and 500 bytes. More are added than
		// deleted, so that each room gets full.
		most := []int{0, 3, 40, 200, 500}[seed%5]
		m := model{map[int]string{}}
		room := slot.Empty()
		const calls = 1000
		dice := stir(seed, 4*calls)
		for k := range calls {
			d := dice[4*k : 4*k+4]
			n := (int(d[2]) + 256*int(d[3])) % (most + 1)
			i := int(d[1])%(len(m.recs)+6) - 2
			room = m.step(t, room, int(d[0])%8, i, stir(seed+uint64(k), n))
			if room != filled(raw(m.slots())) {
				t.Fatalf("the row %d, %d calls: %q, not %v", seed, k+1, room, m.slots())
			}
			reads(t, room, m.slots())
			leaves(t, room)
			if k%20 > 0 {
				continue
			}
			for i, s := range m.recs {
				holds(t, room, i, s)
			}
		}
	}
}

// The rules that hold everywhere: what is handed in and out.

// apart fails the test where an answer lies within a text that was handed in.
func apart(t *testing.T, answer, given string) {
	t.Helper()
	first := uintptr(unsafe.Pointer(unsafe.StringData(given)))
	at := uintptr(unsafe.Pointer(unsafe.StringData(answer)))
	if at >= first && at < first+uintptr(len(given)) {
		t.Error("an answer lies where what was handed in does")
	}
}

func TestAnswersShareNoMemory(t *testing.T) {
	// Records that fill a room wholly might be handed on as they are.
	a, b := stir(1, 300), stir(2, 188)
	room := pack(t, used(a, b, ""))
	apart(t, room, a)
	l, _ := slot.Read(room)
	again, _ := slot.Read(room)
	for i := range 2 {
		apart(t, l[i].Rec, room)
		apart(t, l[i].Rec, again[i].Rec)
	}
	l[0] = slot.Slot{}
	reads(t, room, used(a, b, ""))
	if !slices.Equal(again, used(a, b, "")) {
		t.Error("two lists share their slots")
	}
	s, _ := slot.Get(room, 0)
	apart(t, s, room)
	other, _ := slot.Get(room, 0)
	apart(t, s, other)
	same, _ := slot.Set(room, 0, a)
	apart(t, same, room)
	apart(t, same, a)
	more, _, _ := slot.Add(slot.Empty(), a)
	apart(t, more, a)
	none, _ := slot.Pack(nil)
	apart(t, none, slot.Empty())
}

func TestWhatIsHandedInIsNotChanged(t *testing.T) {
	behind := slot.Slot{Used: true, Rec: "behind"}
	for _, l := range rooms() {
		for _, n := range []int{0, 1, 5} {
			given := joined(l, empties(n), []slot.Slot{behind, behind})
			spare := given[:len(l)+n]
			pack(t, spare)
			if !slices.Equal(given, joined(l, empties(n), []slot.Slot{behind, behind})) {
				t.Fatalf("Pack changed what it was given, or what is behind: %v", given)
			}
		}
	}
	given := joined(used("a"), []slot.Slot{{Rec: "x"}}, empties(1))
	packsNot(t, given, api.ErrForm)
	if !slices.Equal(given, joined(used("a"), []slot.Slot{{Rec: "x"}}, empties(1))) {
		t.Errorf("Pack changed what it was given: %v", given)
	}
}
