package codec_test

import (
	"bytes"
	"encoding/binary"
	"hash/crc32"
	"math"
	"math/rand"
	"testing"

	"coxswain/api"
	"coxswain/codec"
)

// wantFrame is a frame by the words of P1.1, with the library's CRC32C.
func wantFrame(kind, place int, body []byte) []byte {
	b := binary.BigEndian.AppendUint32(nil, uint32(len(body)))
	b = append(b, byte(kind))
	b = append(b, binary.BigEndian.AppendUint64(nil, uint64(place))[2:]...)
	b = append(b, body...)
	return binary.LittleEndian.AppendUint32(b, crc32.Checksum(b, crc32.MakeTable(crc32.Castagnoli)))
}

func mustFrame(t *testing.T, kind, place int, body []byte) []byte {
	t.Helper()
	b, e := codec.Frame(kind, place, body)
	if e != api.OK {
		t.Fatalf("Frame(%d, %d, %d bytes): %v", kind, place, len(body), e)
	}
	return b
}

// expectNone asks that nothing is taken of data, with this error.
func expectNone(t *testing.T, data []byte, want api.Errno) {
	t.Helper()
	kind, place, body, used, e := codec.Unframe(data)
	if kind != 0 || place != 0 || len(body) != 0 || used != 0 || e != want {
		t.Fatalf("Unframe of %d bytes: %d, %d, %d bytes, %d, %v; want nothing, %v", len(data), kind, place, len(body), used, e, want)
	}
}

func expectTaken(t *testing.T, data []byte, kind, place int, body []byte, used int) {
	t.Helper()
	k, p, b, u, e := codec.Unframe(data)
	if k != kind || p != place || !bytes.Equal(b, body) || u != used || e != api.OK {
		t.Fatalf("Unframe of %d bytes: %d, %d, %d bytes, %d, %v; want %d, %d, %d bytes, %d", len(data), k, p, len(b), u, e, kind, place, len(body), used)
	}
}

type framed struct {
	kind, place int
	body        []byte
}

func frames() []framed {
	return []framed{
		{0, 0, nil},
		{255, api.MaxNumber, nil},
		{1, 2, []byte("a")},
		{7, 0x123456789A, []byte("123456789")},
		{254, api.MaxNumber - 1, bytes.Repeat([]byte{0, 255, 128}, 100)},
		{128, 255, bytes.Repeat([]byte{9}, 1<<20-1)},
		{3, 256, bytes.Repeat([]byte{1, 2, 3, 4}, 1<<18)},
	}
}

func TestFrameBytes(t *testing.T) {
	for _, f := range frames() {
		if b := mustFrame(t, f.kind, f.place, f.body); !bytes.Equal(b, wantFrame(f.kind, f.place, f.body)) {
			t.Errorf("Frame(%d, %d, %d bytes): other bytes than P1.1 tells", f.kind, f.place, len(f.body))
		}
	}
}

func TestFrameExamples(t *testing.T) {
	b := mustFrame(t, 1, 2, []byte("a"))
	if want := []byte{0, 0, 0, 1, 1, 0, 0, 0, 0, 0, 2, 'a'}; len(b) != 16 || !bytes.Equal(b[:12], want) {
		t.Errorf("Frame(1, 2, a): %v", b)
	}
	if b := mustFrame(t, 0, api.MaxNumber, nil); !bytes.Equal(b[:11], []byte{0, 0, 0, 0, 0, 1, 0, 0, 0, 0, 0}) {
		t.Errorf("Frame(0, 2^40, none): %v", b)
	}
}

func TestFrameRefusals(t *testing.T) {
	long := make([]byte, 1<<20+1)
	for _, f := range []framed{
		{256, 0, nil},
		{-1, 0, nil},
		{0, -1, nil},
		{0, api.MaxNumber + 1, nil},
		{0, 0, long},
		{math.MaxInt, math.MaxInt, nil},
		{math.MinInt, math.MinInt, long},
		{1 << 32, 0, nil},
		{0, 1 << 48, nil},
	} {
		if b, e := codec.Frame(f.kind, f.place, f.body); b != nil || e != api.ErrArg {
			t.Errorf("Frame(%d, %d, %d bytes): %d bytes, %v", f.kind, f.place, len(f.body), len(b), e)
		}
	}
}

func TestUnframeOfFrame(t *testing.T) {
	for _, f := range frames() {
		b := mustFrame(t, f.kind, f.place, f.body)
		expectTaken(t, b, f.kind, f.place, f.body, len(b))
		for _, behind := range [][]byte{{0}, {255, 255, 255, 255}, b} {
			expectTaken(t, append(bytes.Clone(b), behind...), f.kind, f.place, f.body, len(b))
		}
	}
}

func TestUnframeOfAPart(t *testing.T) {
	b := mustFrame(t, 7, 99, []byte("a body of some bytes"))
	for i := range b {
		expectNone(t, b[:i], api.OK)
	}
	expectNone(t, nil, api.OK)
	long := mustFrame(t, 7, 99, make([]byte, 1<<20))
	expectNone(t, long[:len(long)-1], api.OK)
}

func TestUnframeTellsTheFirstThatApplies(t *testing.T) {
	head := func(length uint32, place uint64, more int) []byte {
		b := append(binary.BigEndian.AppendUint32(nil, length), 5)
		b = append(b, binary.BigEndian.AppendUint64(nil, place)[2:]...)
		return append(b, make([]byte, more)...)
	}
	tooLong, tooFar := head(1<<20+1, 0, 0), head(0, api.MaxNumber+1, 0)
	expectNone(t, tooLong[:10], api.OK)
	expectNone(t, tooFar[:10], api.OK)
	expectNone(t, tooLong, api.ErrBytes)
	expectNone(t, tooFar, api.ErrBytes)
	expectNone(t, head(math.MaxUint32, 1<<48-1, 0), api.ErrBytes)
	expectNone(t, head(1<<20+1, 0, 1<<20+5), api.ErrBytes)
	expectNone(t, head(1<<20, api.MaxNumber, 0), api.OK)
	expectNone(t, head(1<<20, 0, 1<<20+3), api.OK)
	expectNone(t, head(1<<20, 0, 1<<20+4), api.ErrBytes)
	expectNone(t, head(0, api.MaxNumber, 3), api.OK)
	expectNone(t, head(0, api.MaxNumber, 4), api.ErrBytes)
	// The sum of a place that is too great is right here: the place alone refuses it.
	expectNone(t, wantFrame(0, api.MaxNumber+1, nil), api.ErrBytes)
	expectNone(t, wantFrame(0, 1<<48-1, []byte("a")), api.ErrBytes)
}

func TestUnframeTellsAWrongSum(t *testing.T) {
	b := mustFrame(t, 1, 2, []byte("body"))
	for i := len(b) - 4; i < len(b); i++ {
		for bit := range 8 {
			c := bytes.Clone(b)
			c[i] ^= 1 << bit
			expectNone(t, c, api.ErrBytes)
			expectNone(t, append(c, b...), api.ErrBytes)
		}
	}
	highFirst := binary.BigEndian.AppendUint32(bytes.Clone(b[:len(b)-4]), binary.LittleEndian.Uint32(b[len(b)-4:]))
	expectNone(t, highFirst, api.ErrBytes)
}

// flip turns over bits from the place at on (each byte's lowest first, as the sum takes them): those that are 1 in pattern.
func flip(data []byte, at int, pattern uint32) []byte {
	out := bytes.Clone(data)
	for i := range 32 {
		if pattern>>i&1 == 1 {
			out[(at+i)/8] ^= 1 << ((at + i) % 8)
		}
	}
	return out
}

func TestChangedFramesAreNotTaken(t *testing.T) {
	rng := rand.New(rand.NewSource(1))
	for _, size := range []int{0, 1, 2, 5, 17, 40} {
		body := make([]byte, size)
		rng.Read(body)
		b := mustFrame(t, 200, 1<<39+77, body)
		for at := 32; at < 8*len(b); at++ {
			for width := 1; width <= min(32, 8*len(b)-at); width++ {
				ends := uint32(1) | uint32(1)<<(width-1)
				inside := rng.Uint32() & (uint32(1)<<(width-1) - 1)
				all := ends | (uint32(1)<<(width-1) - 1)
				for _, pattern := range []uint32{ends, ends | inside, all} {
					expectNone(t, flip(b, at, pattern), api.ErrBytes)
				}
			}
		}
	}
}

func TestUnframeOfAnyBytes(t *testing.T) {
	rng := rand.New(rand.NewSource(2))
	for range 20000 {
		data := make([]byte, rng.Intn(40))
		rng.Read(data)
		if len(data) > 4 && rng.Intn(2) == 0 {
			copy(data, []byte{0, 0, 0, byte(rng.Intn(20))})
		}
		kind, place, body, used, e := codec.Unframe(data)
		if used > 0 {
			if e != api.OK || !bytes.Equal(data[:used], wantFrame(kind, place, body)) {
				t.Fatalf("Unframe(%v): %d, %d, %v, %d, %v", data, kind, place, body, used, e)
			}
			continue
		}
		expectNone(t, data, e)
	}
}

// roomy is these bytes with spare room that must stay as it is.
func roomy(data []byte) []byte {
	out := make([]byte, len(data), len(data)+64)
	copy(out, data)
	return out
}

func TestFramesHaveMemoryOfTheirOwn(t *testing.T) {
	body := roomy([]byte("some body"))
	b := mustFrame(t, 1, 2, body)
	first := bytes.Clone(b)
	if string(body) != "some body" || !bytes.Equal(body[:cap(body)][len(body):], make([]byte, 64)) {
		t.Errorf("Frame changed what it was handed: %v", body[:cap(body)])
	}
	clear(body[:cap(body)])
	if !bytes.Equal(b, first) {
		t.Error("a frame changes with the body it was made of")
	}

	data := roomy(first)
	_, _, got, _, _ := codec.Unframe(data)
	if !bytes.Equal(data, first) || !bytes.Equal(data[:cap(data)][len(data):], make([]byte, 64)) {
		t.Error("Unframe changed what it was handed")
	}
	clear(data[:cap(data)])
	if string(got) != "some body" {
		t.Error("a body changes with the data it was read from")
	}
	clear(data)
	copy(data, first)
	_, _, got, _, _ = codec.Unframe(data)
	clear(got[:cap(got)])
	if !bytes.Equal(data, first) {
		t.Error("the data change with the body that was read from them")
	}
}

func TestNilAndEmptyBodiesAreOne(t *testing.T) {
	if !bytes.Equal(mustFrame(t, 3, 4, nil), mustFrame(t, 3, 4, []byte{})) {
		t.Error("frames of nil and of no bytes are not the same")
	}
}

func TestNumbersOfTheDocument(t *testing.T) {
	for e, want := range map[api.Errno]string{api.OK: "error 0", api.ErrArg: "error 1", api.ErrBytes: "error 10"} {
		if e.Error() != want {
			t.Errorf("%s; want %s", e.Error(), want)
		}
	}
	if api.MaxNumber != 1<<40 {
		t.Errorf("MaxNumber: %d", api.MaxNumber)
	}
}
