package chunk

import (
	"math"
	"testing"

	"barbican/api"
)

// counted is a decoder behind a chunk's end, of whose body so many bytes have been counted: more than a test could feed.
func counted(t *testing.T, most int, size int) *Decoder {
	t.Helper()
	d := New(most)
	if size == 0 {
		return d
	}
	if body, read, whole, e := d.Feed("1\r\nx\r\n"); body != "x" || read != 6 || whole || e != api.OK {
		t.Fatalf("New(%d): %q, %d, %v, %d", most, body, read, whole, e)
	}
	d.size = size
	return d
}

// wantSize feeds a size line and the beginning of its chunk, and wants the chunk taken just where the body may have so many bytes more.
func wantSize(t *testing.T, most int, size int, digits string, number int, taken bool) {
	t.Helper()
	d := counted(t, most, size)
	line := digits + "\r\n"
	begun := "abcde"[:min(number, 5)]
	if taken {
		if body, read, whole, e := d.Feed(line + begun); body != begun || read != len(line+begun) || whole || e != api.OK {
			t.Errorf("most %d, %d read, %s: %q, %d, %v, %d", most, size, digits, body, read, whole, e)
		}
		if d.Size() != size+len(begun) {
			t.Errorf("most %d, %d read, %s: Size() = %d", most, size, digits, d.Size())
		}
		return
	}
	for _, text := range []string{line + begun, "", "1\r\nx\r\n", "0\r\n\r\n"} {
		if body, read, whole, e := d.Feed(text); body != "" || read != 0 || whole || e != api.ErrOver {
			t.Errorf("most %d, %d read, %s, then %q: %q, %d, %v, %d", most, size, digits, text, body, read, whole, e)
		}
	}
}

// P10.1 where the body and a chunk have more bytes together than 64 bits can count.
func TestMostBeyondSums(t *testing.T) {
	sizes := map[string]int{"1": 1, "7FFFFFFF": 0x7fffffff, "80000000": 0x80000000, "FFFFFFFF": 0xffffffff}
	for _, most := range []int{9223372034707292160, 9223372032559808512, 9223372032559808513, math.MaxInt - 1, math.MaxInt} {
		for digits, number := range sizes {
			for _, left := range []int{0, 1, 2, number - 1, number, number + 1, 1 << 40} {
				wantSize(t, most, most-left, digits, number, number <= left)
			}
		}
	}
	// With a most below 0 the first size line already is too much, also that of the last chunk.
	for _, most := range []int{math.MinInt, math.MinInt + 1, -0x100000000, -1, 0} {
		for digits, number := range sizes {
			wantSize(t, most, 0, digits, number, false)
		}
		if most < 0 {
			wantSize(t, most, 0, "0", 0, false)
		}
	}
	if body, read, whole, e := New(0).Feed("0\r\n\r\n"); body != "" || read != 5 || !whole || e != api.OK {
		t.Errorf("New(0): %q, %d, %v, %d", body, read, whole, e)
	}
}

// The last chunk is read where the body has all the bytes that it may have.
func TestLastChunkAtGreatMost(t *testing.T) {
	for _, most := range []int{9223372034707292160, math.MaxInt} {
		d := counted(t, most, most)
		if body, read, whole, e := d.Feed("0\r\n\r\n"); body != "" || read != 5 || !whole || e != api.OK {
			t.Errorf("most %d: %q, %d, %v, %d", most, body, read, whole, e)
		}
	}
}
