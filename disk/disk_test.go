package disk_test

import (
	"math"
	"slices"
	"strings"
	"testing"
	"unsafe"

	"croft/api"
	"croft/disk"
)

// full is a sector of one byte, all over.
func full(b byte) string { return strings.Repeat(string([]byte{b}), api.Sector) }

var blank = full(0)

// stir answers n bytes that follow from the seed alone, with no pattern in them.
func stir(seed uint64, n int) string {
	out := make([]byte, n)
	for i := range out {
		seed = seed*6364136223846793005 + 1442695040888963407
		out[i] = byte(seed >> 56)
	}
	return string(out)
}

// extremes are numbers at the ends of what an int holds.
var extremes = []int{math.MinInt, math.MinInt + 1, math.MinInt32, math.MaxInt32, math.MaxInt - 1, math.MaxInt}

// made answers a new disk.
func made(t *testing.T, sectors int) *disk.Disk {
	t.Helper()
	d, e := disk.New(sectors)
	if e != api.OK || d == nil {
		t.Fatalf("New(%d): %d", sectors, e)
	}
	return d
}

// loaded answers a disk of these bytes.
func loaded(t *testing.T, image string) *disk.Disk {
	t.Helper()
	d, e := disk.Load(image)
	if e != api.OK || d == nil {
		t.Fatalf("Load of %d bytes: %d", len(image), e)
	}
	return d
}

// write fails the test unless a Write answers so.
func write(t *testing.T, d *disk.Disk, i int, s string, want api.Errno) {
	t.Helper()
	if e := d.Write(i, s); e != want {
		t.Fatalf("Write(%d, %d bytes) = %d, not %d", i, len(s), e, want)
	}
}

// flush fails the test unless a Flush answers so.
func flush(t *testing.T, d *disk.Disk, want api.Errno) {
	t.Helper()
	if e := d.Flush(); e != want {
		t.Fatalf("Flush = %d, not %d", e, want)
	}
}

// stands fails the test unless these are the sectors that are read.
func stands(t *testing.T, d *disk.Disk, want ...string) {
	t.Helper()
	if d.Len() != len(want) {
		t.Fatalf("Len = %d, not %d", d.Len(), len(want))
	}
	for i, s := range want {
		if got, e := d.Read(i); got != s || e != api.OK {
			t.Errorf("Read(%d) = %q, %d, not %q", i, got, e, s)
		}
	}
}

// sure fails the test unless these are the sectors that are sure.
func sure(t *testing.T, d *disk.Disk, want ...string) {
	t.Helper()
	if got := d.Image(); got != strings.Join(want, "") {
		t.Errorf("Image = %q, not %q", got, want)
	}
}

// pending fails the test unless so many writes aren't sure.
func pending(t *testing.T, d *disk.Disk, want int) {
	t.Helper()
	if got := d.Pending(); got != want {
		t.Errorf("Pending = %d, not %d", got, want)
	}
}

// isDown fails the test unless the disk is down, and all that hangs on it.
func isDown(t *testing.T, d *disk.Disk) {
	t.Helper()
	if !d.Down() {
		t.Error("the disk isn't down")
	}
	for _, i := range []int{-1, 0, d.Len() - 1, d.Len()} {
		if s, e := d.Read(i); s != "" || e != api.ErrDown {
			t.Errorf("Read(%d) = %q, %d of a disk that is down", i, s, e)
		}
		write(t, d, i, full('x'), api.ErrDown)
		write(t, d, i, "short", api.ErrDown)
	}
	flush(t, d, api.ErrDown)
}

// Promise 6.1: New, Load, Len, Image.

func TestNewOfWrongSizes(t *testing.T) {
	for _, n := range append(extremes, -api.MaxSectors, -64, -1, 0, api.MaxSectors+1, 2*api.MaxSectors, 1<<58, 1<<58+1) {
		if d, e := disk.New(n); d != nil || e != api.ErrArg {
			t.Errorf("New(%d) = %v, %d", n, d != nil, e)
		}
	}
}

func TestNewIsBlank(t *testing.T) {
	for _, n := range []int{1, 2, 3, 64, 1000, api.MaxSectors - 1, api.MaxSectors} {
		d := made(t, n)
		if d.Len() != n || d.Image() != strings.Repeat(blank, n) {
			t.Errorf("New(%d) has %d sectors, or they aren't blank", n, d.Len())
		}
		for _, i := range []int{0, n / 2, n - 1} {
			if s, e := d.Read(i); s != blank || e != api.OK {
				t.Errorf("Read(%d) of %d = %q, %d", i, n, s, e)
			}
		}
		if d.Pending() != 0 || d.Down() {
			t.Errorf("New(%d) has writes, or is down", n)
		}
	}
}

func TestLoadOfWrongLengths(t *testing.T) {
	const most = api.MaxSectors * api.Sector
	text := strings.Repeat("\x00", most+2*api.Sector)
	for _, n := range []int{
		0, 1, 32, 63, 65, 127, 129, 512 - 1, most - 1, most - 63, most + 1, most + 63, most + 64, most + 128,
	} {
		if d, e := disk.Load(text[:n]); d != nil || e != api.ErrArg {
			t.Errorf("Load of %d bytes = %v, %d", n, d != nil, e)
		}
	}
}

func TestLoadIsTheseBytesAllSure(t *testing.T) {
	for _, n := range []int{1, 2, 3, 17, api.MaxSectors - 1, api.MaxSectors} {
		image := stir(uint64(n), n*api.Sector)
		d := loaded(t, image)
		if d.Len() != n || d.Image() != image || d.Pending() != 0 || d.Down() {
			t.Errorf("Load of %d sectors has %d, or others, or isn't sure", n, d.Len())
		}
		d.Crash(nil, 0, 0)
		for _, i := range []int{0, n / 2, n - 1} {
			if s, e := d.Read(i); s != image[64*i:64*i+64] || e != api.OK {
				t.Errorf("Read(%d) = %q, %d", i, s, e)
			}
		}
	}
}

func TestImageIsLoadedAgain(t *testing.T) {
	d := made(t, 3)
	write(t, d, 1, stir(1, 64), api.OK)
	flush(t, d, api.OK)
	write(t, d, 1, full('z'), api.OK)
	again := loaded(t, d.Image())
	stands(t, again, blank, stir(1, 64), blank)
	pending(t, again, 0)
	// Neither one sees what the other one has been through.
	write(t, again, 0, full('y'), api.OK)
	flush(t, again, api.OK)
	stands(t, d, blank, full('z'), blank)
	flush(t, d, api.OK)
	stands(t, again, full('y'), stir(1, 64), blank)
}

func TestImageHasWhatIsSureAlone(t *testing.T) {
	d := made(t, 3)
	write(t, d, 2, full('a'), api.OK)
	write(t, d, 0, full('b'), api.OK)
	sure(t, d, blank, blank, blank)
	flush(t, d, api.OK)
	sure(t, d, full('b'), blank, full('a'))
	write(t, d, 2, full('c'), api.OK)
	sure(t, d, full('b'), blank, full('a'))
	d.Fuse(0)
	flush(t, d, api.ErrDown)
	sure(t, d, full('b'), blank, full('a'))
	if d.Len() != 3 {
		t.Errorf("Len = %d of a disk that is down", d.Len())
	}
}

// Promise 6.2: Read, Write, Flush, Pending.

func TestReadOfNoSector(t *testing.T) {
	for _, n := range []int{1, 3, api.MaxSectors} {
		d := made(t, n)
		for _, i := range append(extremes, -n, -1, n, n+1, 1<<58) {
			if s, e := d.Read(i); s != "" || e != api.ErrArg {
				t.Errorf("Read(%d) of %d = %q, %d", i, n, s, e)
			}
		}
	}
}

func TestWriteOfWrongArguments(t *testing.T) {
	d := loaded(t, stir(2, 3*api.Sector))
	before := d.Image()
	for _, i := range append(extremes, -3, -1, 3, 4, 1<<58) {
		write(t, d, i, full('a'), api.ErrArg)
		write(t, d, i, "", api.ErrArg)
	}
	for _, n := range []int{0, 1, 32, 63, 65, 128, 512, 65536} {
		for i := range 3 {
			write(t, d, i, stir(3, n), api.ErrArg)
		}
	}
	pending(t, d, 0)
	stands(t, d, before[:64], before[64:128], before[128:])
	flush(t, d, api.OK)
	if d.Image() != before {
		t.Error("a refused Write is on the disk")
	}
}

func TestWhatWasWrittenLastIsRead(t *testing.T) {
	d := made(t, 3)
	write(t, d, 1, full('a'), api.OK)
	stands(t, d, blank, full('a'), blank)
	write(t, d, 1, full('b'), api.OK)
	write(t, d, 2, full('c'), api.OK)
	stands(t, d, blank, full('b'), full('c'))
	flush(t, d, api.OK)
	stands(t, d, blank, full('b'), full('c'))
	write(t, d, 2, full('d'), api.OK)
	write(t, d, 1, blank, api.OK)
	stands(t, d, blank, blank, full('d'))
	flush(t, d, api.OK)
	stands(t, d, blank, blank, full('d'))
	sure(t, d, blank, blank, full('d'))
}

func TestEachSectorIsItsOwn(t *testing.T) {
	const n = 300
	d := made(t, n)
	want := make([]string, n)
	for round := range 2 {
		for i := range n {
			want[i] = stir(uint64(n*round+i), api.Sector)
			write(t, d, i, want[i], api.OK)
		}
		stands(t, d, want...)
		pending(t, d, n)
		flush(t, d, api.OK)
		stands(t, d, want...)
		sure(t, d, want...)
	}
}

func TestTheLastSectorOfTheGreatestDisk(t *testing.T) {
	d := made(t, api.MaxSectors)
	write(t, d, api.MaxSectors-1, full('a'), api.OK)
	write(t, d, api.MaxSectors, full('b'), api.ErrArg)
	flush(t, d, api.OK)
	if got, want := d.Image(), strings.Repeat(blank, api.MaxSectors-1)+full('a'); got != want {
		t.Error("the last sector isn't what was written there")
	}
}

func TestPendingCountsEachWrite(t *testing.T) {
	d := made(t, 2)
	pending(t, d, 0)
	for n := range 5 {
		write(t, d, 0, full('a'), api.OK) // the same bytes each time
		pending(t, d, n+1)
	}
	write(t, d, 1, blank, api.OK) // what stands there as it is
	pending(t, d, 6)
	write(t, d, 2, full('a'), api.ErrArg)
	pending(t, d, 6)
	flush(t, d, api.OK)
	pending(t, d, 0)
	flush(t, d, api.OK)
	pending(t, d, 0)
	write(t, d, 1, full('a'), api.OK)
	pending(t, d, 1)
}

// Promise 6.3: Fuse, Down.

func TestThePowerGoesBehindSoManyCalls(t *testing.T) {
	// Each call is Write where the shape has a 1 at its number, else Flush.
	const longest = 6
	for n := range longest {
		for shape := range 1 << (n + 1) {
			d := made(t, 2)
			d.Fuse(n)
			waiting := 0
			for i := range n + 1 {
				want := api.OK
				if i == n {
					want = api.ErrDown
				}
				if d.Down() {
					t.Fatalf("down ahead of the call %d with Fuse(%d)", i, n)
				}
				switch {
				case shape>>i&1 == 1:
					write(t, d, 0, full(byte(i+1)), want)
					waiting++
				default:
					flush(t, d, want)
					if want == api.OK {
						waiting = 0
					}
				}
			}
			if shape>>n&1 == 1 {
				waiting-- // the last one isn't done
			}
			pending(t, d, waiting)
			isDown(t, d)
			pending(t, d, waiting)
		}
	}
}

func TestTheCallInWhichThePowerGoesIsNotDone(t *testing.T) {
	d := made(t, 2)
	write(t, d, 0, full('a'), api.OK)
	d.Fuse(0)
	write(t, d, 0, full('b'), api.ErrDown)
	pending(t, d, 1)
	d.Crash([]bool{true, true}, 1, 64)
	stands(t, d, full('a'), blank)

	write(t, d, 1, full('c'), api.OK)
	d.Fuse(0)
	flush(t, d, api.ErrDown)
	pending(t, d, 1)
	sure(t, d, full('a'), blank)
	d.Crash(nil, -1, 0)
	stands(t, d, full('a'), blank)
}

func TestOnlyCallsThatAreOKAreCounted(t *testing.T) {
	for n := range 3 {
		d := made(t, 2)
		d.Fuse(n)
		others := func() {
			write(t, d, 2, full('a'), api.ErrArg)
			write(t, d, -1, full('a'), api.ErrArg)
			write(t, d, 0, "short", api.ErrArg)
			stands(t, d, full(byte(d.Pending())), blank)
			if _, e := d.Read(2); e != api.ErrArg {
				t.Errorf("Read(2) = %d", e)
			}
			if d.Image() != blank+blank || d.Down() {
				t.Errorf("sure ahead of a flush, or down")
			}
		}
		for i := range n {
			others()
			write(t, d, 0, full(byte(i+1)), api.OK)
		}
		others()
		write(t, d, 0, full('z'), api.ErrDown)
		isDown(t, d)
	}
}

func TestFuseAnewTakesThePlaceOfTheFormerOne(t *testing.T) {
	d := made(t, 1)
	d.Fuse(0)
	d.Fuse(2)
	write(t, d, 0, full('a'), api.OK)
	d.Fuse(2)
	write(t, d, 0, full('b'), api.OK)
	flush(t, d, api.OK)
	d.Fuse(5)
	write(t, d, 0, full('c'), api.OK)
	d.Fuse(0)
	write(t, d, 0, full('d'), api.ErrDown)
	isDown(t, d)
	d.Crash([]bool{true}, -1, 0)
	stands(t, d, full('c'))
}

func TestBelowNoughtThereIsNoFuse(t *testing.T) {
	for _, n := range []int{-1, -2, -100, math.MinInt32, math.MinInt + 1, math.MinInt} {
		d := made(t, 1)
		d.Fuse(1)
		d.Fuse(n)
		for i := range 200 {
			write(t, d, 0, full(byte(i)), api.OK)
			flush(t, d, api.OK)
		}
		if d.Down() {
			t.Errorf("down with Fuse(%d)", n)
		}
	}
}

func TestLongFuses(t *testing.T) {
	for _, n := range []int{1000, math.MaxInt32, math.MaxInt} {
		d := made(t, 1)
		d.Fuse(n)
		for i := range 1000 {
			write(t, d, 0, full(byte(i)), api.OK)
		}
		want := api.OK
		if n == 1000 {
			want = api.ErrDown
		}
		flush(t, d, want)
		if d.Down() != (n == 1000) {
			t.Errorf("Down = %t behind 1001 calls with Fuse(%d)", d.Down(), n)
		}
	}
}

func TestAFuseWakesNoDiskThatIsDown(t *testing.T) {
	d := made(t, 2)
	write(t, d, 0, full('a'), api.OK)
	d.Fuse(0)
	flush(t, d, api.ErrDown)
	for _, n := range []int{-1, 0, 1, 7, math.MaxInt, math.MinInt} {
		d.Fuse(n)
		isDown(t, d)
	}
	pending(t, d, 1)
	sure(t, d, blank, blank)
}

// Promise 6.4: Crash.

// script is what a crash is told.
type script struct {
	keep        []bool
	torn, bytes int
}

// step is a Write.
type step struct {
	at   int
	text string
}

// left is what stands behind a crash, reckoned as the chapter tells it, byte by
// byte.
func left(before string, steps []step, s script) string {
	out := []byte(before)
	for i, w := range steps {
		for k := range api.Sector {
			done := i < len(s.keep) && s.keep[i]
			if i == s.torn {
				done = k < s.bytes
			}
			if done {
				out[w.at*api.Sector+k] = w.text[k]
			}
		}
	}
	return string(out)
}

// crashed fails the test unless a crash behind these writes leaves what it
// must, down or not.
func crashed(t *testing.T, before string, steps []step, s script, down bool) {
	t.Helper()
	d := loaded(t, before)
	for _, w := range steps {
		write(t, d, w.at, w.text, api.OK)
	}
	if down {
		d.Fuse(0)
		flush(t, d, api.ErrDown)
	}
	d.Crash(s.keep, s.torn, s.bytes)
	want := left(before, steps, s)
	if got := d.Image(); got != want {
		t.Fatalf("behind Crash(%v, %d, %d): %q, not %q", s.keep, s.torn, s.bytes, got, want)
	}
	for i := range d.Len() {
		if got, e := d.Read(i); got != want[64*i:64*i+64] || e != api.OK {
			t.Fatalf("behind Crash(%v, %d, %d): Read(%d) = %q, %d", s.keep, s.torn, s.bytes, i, got, e)
		}
	}
	if d.Pending() != 0 || d.Down() {
		t.Fatalf("behind Crash(%v, %d, %d): writes, or down", s.keep, s.torn, s.bytes)
	}
}

// keeps are all lists of up to n bools.
func keeps(n int) [][]bool {
	out := [][]bool{nil}
	for length := 1; length <= n; length++ {
		for bits := range 1 << length {
			keep := make([]bool, length)
			for i := range keep {
				keep[i] = bits>>i&1 == 1
			}
			out = append(out, keep)
		}
	}
	return out
}

func TestCrashOfAllShortScripts(t *testing.T) {
	before := stir(20, 3*api.Sector)
	first := []step{{1, stir(21, 64)}, {0, stir(22, 64)}, {1, stir(23, 64)}, {1, stir(24, 64)}}
	for n := range len(first) + 1 {
		for _, keep := range keeps(n + 1) {
			for torn := -2; torn <= n+1; torn++ {
				for _, bytes := range []int{-1, 0, 1, 31, 63, 64, 65} {
					crashed(t, before, first[:n], script{keep, torn, bytes}, torn%2 == 0)
				}
			}
		}
	}
}

func TestCrashTearsAtEachByte(t *testing.T) {
	before := stir(30, 2*api.Sector)
	steps := []step{{1, stir(31, 64)}, {1, stir(32, 64)}, {0, stir(33, 64)}}
	for bytes := -3; bytes < 70; bytes++ {
		for torn := range 3 {
			for _, keep := range [][]bool{nil, {true, true, true}, {false, false, false}, {true, false, true}} {
				crashed(t, before, steps, script{keep, torn, bytes}, false)
			}
		}
	}
}

func TestCrashWithNumbersAtTheEnds(t *testing.T) {
	before := stir(40, 2*api.Sector)
	steps := []step{{1, stir(41, 64)}, {0, stir(42, 64)}}
	for _, n := range append(extremes, -64, 128, 1<<32, 1<<32+1) {
		for _, keep := range [][]bool{nil, {true}, {true, true}, {false, true}} {
			crashed(t, before, steps, script{keep, n, 5}, true)
			crashed(t, before, steps, script{keep, 1, n}, true)
			crashed(t, before, steps, script{keep, n, n}, false)
		}
	}
}

func TestCrashOfGivenBytes(t *testing.T) {
	for _, x := range []struct {
		script
		want string
	}{
		{script{nil, -1, 0}, full('a')},
		{script{[]bool{true}, -1, 0}, full('b')},
		{script{nil, 0, 3}, "bbb" + full('a')[3:]},
		{script{[]bool{true}, 0, 3}, "bbb" + full('a')[3:]},
		{script{[]bool{true}, 0, 0}, full('a')},
		{script{[]bool{true}, 0, -7}, full('a')},
		{script{[]bool{false}, 0, 64}, full('b')},
		{script{nil, 0, 63}, full('b')[:63] + "a"},
		{script{[]bool{false, true}, 1, 3}, full('a')},
	} {
		d := made(t, 1)
		write(t, d, 0, full('a'), api.OK)
		flush(t, d, api.OK)
		write(t, d, 0, full('b'), api.OK)
		d.Crash(x.keep, x.torn, x.bytes)
		stands(t, d, x.want)
		sure(t, d, x.want)
	}
}

func TestATornWriteStandsOverWhatIsKeptAheadOfIt(t *testing.T) {
	d := made(t, 1)
	for _, b := range []byte{'a', 'b', 'c'} {
		write(t, d, 0, full(b), api.OK)
	}
	d.Crash([]bool{true, true, true}, 1, 10)
	stands(t, d, full('c'))
	for _, b := range []byte{'d', 'e', 'f'} {
		write(t, d, 0, full(b), api.OK)
	}
	d.Crash([]bool{true, true, false}, 1, 10)
	stands(t, d, full('e')[:10]+full('d')[10:])
	for _, b := range []byte{'g', 'h'} {
		write(t, d, 0, full(b), api.OK)
	}
	d.Crash(nil, 1, 10)
	stands(t, d, full('h')[:10]+full('d')[10:])
}

func TestBehindACrashThereIsNoFuse(t *testing.T) {
	for n := range 4 {
		d := made(t, 1)
		d.Fuse(n)
		d.Crash(nil, -1, 0)
		for range 10 {
			write(t, d, 0, full('a'), api.OK)
			flush(t, d, api.OK)
		}
		d.Fuse(0)
		flush(t, d, api.ErrDown)
		d.Fuse(n) // of a disk that is down already
		d.Crash(nil, -1, 0)
		for range 10 {
			write(t, d, 0, full('b'), api.OK)
			flush(t, d, api.OK)
		}
		stands(t, d, full('b'))
		d.Fuse(0)
		write(t, d, 0, full('c'), api.ErrDown) // a fuse behind a crash is one
	}
}

func TestNumbersOfWritesBeginAnew(t *testing.T) {
	d := made(t, 2)
	for _, b := range []byte{'a', 'b', 'c'} {
		write(t, d, 0, full(b), api.OK)
	}
	flush(t, d, api.OK)
	write(t, d, 1, full('d'), api.OK)
	d.Crash([]bool{true}, -1, 0) // the one behind the flush is 0
	stands(t, d, full('c'), full('d'))
	write(t, d, 1, full('e'), api.OK)
	d.Crash([]bool{false, true, true}, -1, 0) // and the one behind the crash
	stands(t, d, full('c'), full('d'))
	d.Crash([]bool{true, true}, 0, 64) // nothing is left for another one
	stands(t, d, full('c'), full('d'))
}

func TestARefusedWriteHasNoNumber(t *testing.T) {
	d := made(t, 1)
	write(t, d, 0, full('a'), api.OK)
	write(t, d, 1, full('x'), api.ErrArg)
	write(t, d, 0, "x", api.ErrArg)
	write(t, d, 0, full('b'), api.OK)
	d.Crash([]bool{true, false, true, true}, -1, 0)
	stands(t, d, full('a'))
}

// Promise 6.5: a nil disk.

func TestANilDisk(t *testing.T) {
	var d *disk.Disk
	look := func() {
		if d.Len() != 0 || d.Pending() != 0 || !d.Down() || d.Image() != "" {
			t.Errorf("a nil disk: Len %d, Pending %d, Down %t, Image %q", d.Len(), d.Pending(), d.Down(), d.Image())
		}
		for _, i := range []int{-1, 0, 1, math.MaxInt, math.MinInt} {
			if s, e := d.Read(i); s != "" || e != api.ErrDown {
				t.Errorf("Read(%d) = %q, %d of a nil disk", i, s, e)
			}
			write(t, d, i, full('a'), api.ErrDown)
			write(t, d, i, "", api.ErrDown)
		}
		flush(t, d, api.ErrDown)
	}
	look()
	for _, n := range []int{-1, 0, 3} {
		d.Fuse(n)
		look()
	}
	d.Crash(nil, -1, 0)
	d.Crash([]bool{true, true}, 0, 64)
	look()
}

// Promise 6.6: what was flushed is read, whatever crashes come behind.

func TestWhatWasFlushedOutlastsCrashes(t *testing.T) {
	d := made(t, 4)
	write(t, d, 0, full('a'), api.OK)
	write(t, d, 1, full('b'), api.OK)
	flush(t, d, api.OK)
	for torn := -1; torn < 5; torn++ {
		for _, keep := range keeps(3) {
			write(t, d, 2, stir(uint64(torn+9), 64), api.OK)
			write(t, d, 3, full('d'), api.OK)
			d.Crash(keep, torn, 13*torn)
			for i, want := range []string{full('a'), full('b')} {
				if got, e := d.Read(i); got != want || e != api.OK {
					t.Fatalf("behind Crash(%v, %d): Read(%d) = %q, %d", keep, torn, i, got, e)
				}
			}
		}
	}
	d.Fuse(0)
	flush(t, d, api.ErrDown)
	d.Crash([]bool{true}, 0, 64)
	if got, e := d.Read(0); got != full('a') || e != api.OK {
		t.Errorf("Read(0) = %q, %d", got, e)
	}
}

// model is a disk as the chapter tells it, without anything clever.
type model struct {
	sure  string
	steps []step
	fuse  int // below 0: none
	down  bool
}

func (m *model) read(i int) (string, api.Errno) {
	switch {
	case m.down:
		return "", api.ErrDown
	case i < 0 || i >= len(m.sure)/api.Sector:
		return "", api.ErrArg
	}
	for k := len(m.steps) - 1; k >= 0; k-- {
		if m.steps[k].at == i {
			return m.steps[k].text, api.OK
		}
	}
	return m.sure[64*i : 64*i+64], api.OK
}

// burn moves the fuse on, and tells whether the power is there still.
func (m *model) burn() bool {
	if m.fuse == 0 {
		m.down = true
		return false
	}
	if m.fuse > 0 {
		m.fuse--
	}
	return true
}

func (m *model) write(i int, s string) api.Errno {
	switch {
	case m.down:
		return api.ErrDown
	case i < 0 || i >= len(m.sure)/api.Sector || len(s) != api.Sector:
		return api.ErrArg
	case !m.burn():
		return api.ErrDown
	}
	m.steps = append(m.steps, step{i, s})
	return api.OK
}

func (m *model) flush() api.Errno {
	if m.down || !m.burn() {
		return api.ErrDown
	}
	for _, w := range m.steps {
		m.sure = m.sure[:64*w.at] + w.text + m.sure[64*w.at+64:]
	}
	m.steps = nil
	return api.OK
}

func (m *model) crash(s script) {
	m.sure = left(m.sure, m.steps, s)
	m.steps, m.fuse, m.down = nil, -1, false
}

// alike fails the test unless the disk answers as the model does.
func alike(t *testing.T, d *disk.Disk, m *model) {
	t.Helper()
	if d.Image() != m.sure || d.Pending() != len(m.steps) || d.Down() != m.down || d.Len() != len(m.sure)/api.Sector {
		t.Fatalf("Pending %d, Down %t, not %d, %t, or another image", d.Pending(), d.Down(), len(m.steps), m.down)
	}
	for i := -1; i <= d.Len(); i++ {
		got, e := d.Read(i)
		if want, f := m.read(i); got != want || e != f {
			t.Fatalf("Read(%d) = %q, %d, not %q, %d", i, got, e, want, f)
		}
	}
}

// scriptOf is a crash that follows from some bytes.
func scriptOf(bytes string) script {
	keep := make([]bool, bytes[0]%8)
	for i := range keep {
		keep[i] = bytes[1]>>i&1 == 1
	}
	return script{keep, int(bytes[2]%8) - 1, int(bytes[3]%70) - 3}
}

func TestManyCallsGoAsTheModelDoes(t *testing.T) {
	for seed := range uint64(60) {
		image := stir(1000+seed, api.Sector*int(seed%5+1))
		d, m := loaded(t, image), &model{sure: image, fuse: -1}
		calls := stir(seed, 6*500)
		for i := 0; i < len(calls); i += 6 {
			rest := calls[i+2 : i+6]
			var got, want api.Errno
			switch calls[i] % 16 {
			case 0, 1:
				got, want = d.Flush(), m.flush()
			case 2:
				s := scriptOf(rest)
				d.Crash(s.keep, s.torn, s.bytes)
				m.crash(s)
			case 3:
				n := int(rest[0]%12) - 2
				d.Fuse(n)
				m.fuse = n
			default:
				at, s := int(calls[i+1]%7)-1, stir(uint64(i), 64)
				if calls[i]%16 == 4 {
					s = s[:63]
				}
				got, want = d.Write(at, s), m.write(at, s)
			}
			if got != want {
				t.Fatalf("seed %d: the call %d answers %d, not %d", seed, i/6, got, want)
			}
			alike(t, d, m)
		}
	}
}

// The rules that hold everywhere: what is handed in and out.

func TestCrashLeavesTheListAsItIs(t *testing.T) {
	all := []bool{true, false, true, true, true}
	before := slices.Clone(all)
	d := made(t, 5)
	for i := range 5 {
		write(t, d, i, full('a'), api.OK)
	}
	d.Crash(all[:2], 1, 9) // what lies in the list's spare room doesn't count
	if !slices.Equal(all, before) {
		t.Errorf("the list is %v now, not %v", all, before)
	}
	stands(t, d, full('a'), full('a')[:9]+blank[9:], blank, blank, blank)
	all[0] = false
	stands(t, d, full('a'), full('a')[:9]+blank[9:], blank, blank, blank)
}

func TestWhatIsHandedInIsNotKept(t *testing.T) {
	raw := []byte(stir(50, 128))
	given := unsafe.String(&raw[0], len(raw))
	d := loaded(t, given)
	want := strings.Clone(given)
	raw[0]++
	raw[100]++
	stands(t, d, want[:64], want[64:])
	sure(t, d, want)

	text := []byte(full('a'))
	write(t, d, 0, unsafe.String(&text[0], len(text)), api.OK)
	text[7] = 'x'
	stands(t, d, full('a'), want[64:])
	flush(t, d, api.OK)
	sure(t, d, full('a'), want[64:])
}

func TestAnswersShareNoMemory(t *testing.T) {
	d := made(t, 1)
	s := full('a')
	write(t, d, 0, s, api.OK)
	seen := map[*byte]bool{unsafe.StringData(s): true}
	fresh := func(got string) {
		t.Helper()
		if seen[unsafe.StringData(got)] {
			t.Error("an answer lies where another text does")
		}
		seen[unsafe.StringData(got)] = true
	}
	for range 2 {
		for range 2 {
			got, _ := d.Read(0)
			fresh(got)
			fresh(d.Image())
		}
		flush(t, d, api.OK)
	}
}

func TestDisksStandApart(t *testing.T) {
	a, b := made(t, 2), made(t, 2)
	write(t, a, 0, full('a'), api.OK)
	a.Fuse(0)
	flush(t, a, api.ErrDown)
	if b.Down() || b.Pending() != 0 {
		t.Error("a disk is down, or has writes, as another one is and has")
	}
	stands(t, b, blank, blank)
	write(t, b, 1, full('b'), api.OK)
	flush(t, b, api.OK)
	a.Crash([]bool{true}, -1, 0)
	stands(t, a, full('a'), blank)
	stands(t, b, blank, full('b'))
}
