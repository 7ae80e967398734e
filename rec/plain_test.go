package rec_test

import (
	"bytes"
	"encoding/binary"
	"fmt"
	"hash/crc32"
	"slices"
	"testing"

	"equerry/api"
)

// plainFrame is the chapter's frame of bytes, by the library's sum and its numbers as bytes; of bytes that are too many as well, which Put refuses.
func plainFrame(record []byte) []byte {
	length := binary.BigEndian.AppendUint32(nil, uint32(len(record)))
	sum := crc32.ChecksumIEEE(joined(length, record))
	return joined(length, binary.BigEndian.AppendUint32(nil, sum), record)
}

// plainRow is the frames of some records, one behind the other.
func plainRow(records [][]byte) []byte {
	var row []byte
	for _, record := range records {
		row = append(row, plainFrame(record)...)
	}
	return row
}

// plainGet is the chapter's Get: it goes by what frame the bytes would begin with, if they had one.
func plainGet(b []byte, at int) ([]byte, int, api.Errno) {
	if at < 0 || at > len(b) {
		return nil, 0, api.ErrShort
	}
	there := bytes.Clone(b[at:])
	if len(there) >= 4 && int64(binary.BigEndian.Uint32(there)) > 1<<16 {
		return nil, 0, api.ErrLong
	}
	if len(there) < 8 || len(there)-8 < int(binary.BigEndian.Uint32(there)) {
		return nil, 0, api.ErrShort
	}
	record := there[8:][:binary.BigEndian.Uint32(there)]
	if !bytes.HasPrefix(there, plainFrame(record)) {
		return nil, 0, api.ErrSum
	}
	return record, at + 8 + len(record), api.OK
}

// plainScan is the chapter's Scan.
func plainScan(b []byte) ([][]byte, int) {
	record, end, errno := plainGet(b, 0)
	if errno != api.OK {
		return nil, 0
	}
	behind, more := plainScan(b[end:])
	return append([][]byte{record}, behind...), end + more
}

// noise is n bytes that look like chance, and are the same each time.
func noise(seed uint64, n int) []byte {
	b := make([]byte, n)
	for i := range b {
		seed = seed*6364136223846793005 + 1442695040888963407
		b[i] = byte(seed >> 56)
	}
	return b
}

// joined is its parts, one behind the other, in memory of its own.
func joined(parts ...[]byte) []byte { return bytes.Join(parts, nil) }

// small are records of up to some hundred bytes: none, one, those at which a part of the length fills up, those that look like frames, or like parts of them.
func small() [][]byte {
	all := [][]byte{nil, {}, {0}, {1}, {0xff}, []byte("a"), []byte("ab"), []byte("abc"), []byte("hello"), make([]byte, 4), make([]byte, 8), make([]byte, 40), bytes.Repeat([]byte{0xff}, 40)}
	all = append(all, plainFrame(nil), plainFrame([]byte("a")), plainRow([][]byte{[]byte("a"), nil, []byte("bc")}), plainFrame([]byte("within"))[:9])
	for _, n := range []int{1, 2, 3, 4, 5, 6, 7, 8, 9, 15, 16, 17, 100, 254, 255, 256, 257} {
		all = append(all, noise(uint64(n), n))
	}
	return all
}

// great are records up to the greatest.
func great() [][]byte {
	var all [][]byte
	for _, n := range []int{4096, 1<<15 - 1, 1 << 15, api.MaxRecord - 1, api.MaxRecord} {
		all = append(all, noise(uint64(n), n))
	}
	return append(all, make([]byte, api.MaxRecord), bytes.Repeat([]byte{0xff}, api.MaxRecord))
}

func records() [][]byte { return append(small(), great()...) }

// fronts are bytes that a frame stands behind.
func fronts() [][]byte {
	return [][]byte{nil, {}, {0}, {0xff}, []byte("x"), []byte("front"), make([]byte, 8), plainFrame([]byte("a")), noise(9, 1000), make([]byte, api.MaxRecord+1)}
}

// behinds are bytes that stand behind a frame, and don't begin with a whole record.
func behinds() [][]byte {
	spoilt := plainFrame([]byte("spoilt"))
	spoilt[8]++
	return [][]byte{{0}, {0, 0, 0}, {0, 0, 0, 0}, {0, 1, 0, 0}, {0, 1, 0, 1}, {0xff, 0xff, 0xff, 0xff}, []byte("junk"), make([]byte, 100), plainFrame([]byte("cut"))[:10], spoilt, joined(spoilt, plainFrame([]byte("whole")))}
}

// answer is what a call says of a place.
type answer struct {
	record string
	end    int
	errno  api.Errno
}

func asAnswer(record []byte, end int, errno api.Errno) answer {
	return answer{string(record), end, errno}
}

// String tells a long record by its beginning.
func (a answer) String() string {
	return fmt.Sprintf("%q (%d bytes), %d, %d", a.record[:min(len(a.record), 20)], len(a.record), a.end, int(a.errno))
}

func sameRecords(a, b [][]byte) bool { return slices.EqualFunc(a, b, bytes.Equal) }

func wantErrno(t *testing.T, what string, got, want api.Errno) {
	t.Helper()
	if got != want {
		t.Errorf("%s: %d, not %d", what, int(got), int(want))
	}
}
