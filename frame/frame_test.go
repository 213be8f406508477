package frame

import (
	"encoding/binary"
	"hash/crc32"
	"slices"
	"strings"
	"testing"

	"odyssey/api"
)

// likeness builds a frame of its own, with the library's sum, for a record of any length that three bytes tell.
func likeness(record string) string {
	size := binary.LittleEndian.AppendUint32(nil, uint32(len(record)))[:3]
	sum := crc32.ChecksumIEEE(append(slices.Clone(size), record...))
	out := append([]byte{167}, size...)
	out = binary.LittleEndian.AppendUint32(out, sum)
	return string(out) + record
}

// bytesOf makes a record of so many bytes, other ones for each seed.
func bytesOf(size, seed int) string {
	out := make([]byte, size)
	state := uint32(seed)
	for i := range out {
		state = state*1664525 + 1013904223
		out[i] = byte(state >> 24)
	}
	return string(out)
}

func mustWrap(t *testing.T, record string) string {
	t.Helper()
	framed, err := Wrap(record)
	if err != api.OK {
		t.Fatalf("P5.1: Wrap of %d bytes: %d, want OK", len(record), err)
	}
	return framed
}

func mustScan(t *testing.T, promise, s string, records []string, size int) {
	t.Helper()
	got, n := Scan(s)
	if !slices.Equal(got, records) || n != size {
		t.Errorf("%s: Scan of %d bytes: %d records, %d bytes, want %d, %d", promise, len(s), len(got), n, len(records), size)
	}
}

func TestWrapOfNothing(t *testing.T) {
	want := string([]byte{167, 0, 0, 0, 18, 217, 65, 255})
	if got := mustWrap(t, ""); got != want {
		t.Errorf("P5.1: the frame of nothing is %q, want %q", got, want)
	}
}

func TestWrapForm(t *testing.T) {
	for _, size := range []int{0, 1, 2, 3, 127, 128, 255, 256, 257, 4000, 65535, 65536, 65537, 131072, api.MaxFrame - 1, api.MaxFrame} {
		for seed := range 3 {
			record := bytesOf(size, seed)
			if got := mustWrap(t, record); got != likeness(record) {
				t.Errorf("P5.1: the frame of a record of %d bytes has %d bytes, and they are not the right ones", size, len(got))
			}
		}
	}
	for b := range 256 {
		record := string([]byte{byte(b)})
		if got := mustWrap(t, record); got != likeness(record) {
			t.Errorf("P5.1: the frame of the byte %d is %q, want %q", b, got, likeness(record))
		}
	}
}

func TestWrapTooLong(t *testing.T) {
	for _, size := range []int{api.MaxFrame + 1, api.MaxFrame + 2, 1 << 24, 1<<24 + 1} {
		if got, err := Wrap(strings.Repeat("x", size)); got != "" || err != api.ErrLong {
			t.Errorf("P5.1: Wrap of %d bytes: %d bytes, %d, want ErrLong", size, len(got), err)
		}
	}
}

func TestScanExamples(t *testing.T) {
	a, b := likeness("ab"), likeness("")
	mustScan(t, "P5.2: two frames and x", a+b+"x", []string{"ab", ""}, 18)
	mustScan(t, "P5.2: nothing", "", nil, 0)
	mustScan(t, "P5.2: x and a frame", "x"+a, nil, 0)
}

func TestScanGreatestRecord(t *testing.T) {
	record := bytesOf(api.MaxFrame, 1)
	mustScan(t, "P5.2: the longest record", likeness(record)+likeness("b"), []string{record, "b"}, api.MaxFrame+17)
}

// A frame's form with a record that is too long is none, though its sum is right and all of it is there.
func TestScanTooLong(t *testing.T) {
	for _, size := range []int{api.MaxFrame + 1, 1<<18 + 3, 1<<24 - 1} {
		long := likeness(strings.Repeat("x", size))
		mustScan(t, "P5.2: too long", long+likeness("b"), nil, 0)
		mustScan(t, "P5.2: too long behind a frame", likeness("a")+long+likeness("b"), []string{"a"}, 9)
	}
}

// The length tells more bytes than there are; the sum is the right one of what is there.
func TestScanLengthBeyond(t *testing.T) {
	for _, size := range []string{"\x03\x00\x00", "\x00\x01\x00", "\x00\x00\x01", "\xff\xff\xff", "\x40\x0d\x03"} {
		sum := binary.LittleEndian.AppendUint32(nil, crc32.ChecksumIEEE([]byte(size+"ab")))
		broken := "\xa7" + size + string(sum) + "ab"
		mustScan(t, "P5.2: a length beyond what there is", broken, nil, 0)
		mustScan(t, "P5.2: a length beyond what there is", likeness("c")+broken, []string{"c"}, 9)
	}
}

// A sum that leaves out the length, or has its bytes the other way round, is no frame's.
func TestScanOtherSums(t *testing.T) {
	low, high := binary.LittleEndian.AppendUint32, binary.BigEndian.AppendUint32
	size := "\x02\x00\x00"
	for _, sum := range [][]byte{
		low(nil, crc32.ChecksumIEEE([]byte("ab"))),
		high(nil, crc32.ChecksumIEEE([]byte(size+"ab"))),
		low(nil, crc32.ChecksumIEEE([]byte("\xa7"+size+"ab"))),
		low(nil, crc32.ChecksumIEEE([]byte("ab"+size))),
		{0, 0, 0, 0},
	} {
		mustScan(t, "P5.2: another sum", "\xa7"+size+string(sum)+"ab", nil, 0)
	}
}

// rows gives rows of records: none, empty ones, records that look like frames themselves.
func rows() [][]string {
	return [][]string{
		nil,
		{""},
		{"", "", ""},
		{"a", "", "bc", "\xa7"},
		{likeness("inner"), likeness("")[:7], "\xa7\x00\x00\x00"},
		{bytesOf(300, 1), bytesOf(1, 2), bytesOf(70000, 3), ""},
	}
}

func TestScanReadsWhatWrapWrote(t *testing.T) {
	for _, row := range rows() {
		written := ""
		for _, record := range row {
			written += mustWrap(t, record)
		}
		mustScan(t, "P5.3: what was written", written, row, len(written))
	}
}

func TestScanOfCutFrames(t *testing.T) {
	row := []string{"ab", "", bytesOf(40, 7), "\xa7\x00"}
	written, ends := "", []int{0}
	for _, record := range row {
		written += likeness(record)
		ends = append(ends, len(written))
	}
	whole := 0
	for size := range len(written) + 1 {
		if whole < len(row) && size == ends[whole+1] {
			whole++
		}
		mustScan(t, "P5.3: cut off", written[:size], row[:whole], ends[whole])
	}
}

func TestScanOfItsOwnCount(t *testing.T) {
	for _, row := range rows() {
		for _, behind := range []string{"", "x", "\xa7", likeness("torn")[:11], "\xa7\x01\x00\x00\x00\x00\x00\x00y" + likeness("lost")} {
			s := ""
			for _, record := range row {
				s += likeness(record)
			}
			s += behind
			records, n := Scan(s)
			mustScan(t, "P5.3: what Scan counted", s[:n], records, n)
			again := ""
			for _, record := range records {
				again += mustWrap(t, record)
			}
			if again != s[:n] {
				t.Errorf("P5.3: what Scan answered, wrapped, is not what it counted (%d bytes, %d counted)", len(again), n)
			}
		}
	}
}

// Each byte of the mark, the sum and the record turned to each other value.
func TestScanOfTurnedBytes(t *testing.T) {
	ahead, behind := likeness("ahead"), likeness("behind")
	for _, record := range []string{"", "a", "some record"} {
		framed := []byte(likeness(record))
		for i := range framed {
			if 1 <= i && i <= 3 {
				continue // what a turned length makes, the document leaves open
			}
			was := framed[i]
			for other := range 256 {
				if byte(other) == was {
					continue
				}
				framed[i] = byte(other)
				mustScan(t, "P5.3: a byte turned", ahead+string(framed)+behind, []string{"ahead"}, len(ahead))
			}
			framed[i] = was
		}
	}
}

func TestAnswersAreNew(t *testing.T) {
	s := likeness("a") + likeness("b") + likeness("c")
	one, _ := Scan(s)
	two, _ := Scan(s)
	for i := range one {
		one[i] = "changed"
	}
	_ = append(one, "more")
	if !slices.Equal(two, []string{"a", "b", "c"}) {
		t.Errorf("R5: two answers share memory: %q", two)
	}
	mustScan(t, "R6: once more", s, []string{"a", "b", "c"}, 27)
}
