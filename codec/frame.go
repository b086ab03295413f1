package codec

import "coxswain/api"

const (
	lengthSize = 4
	kindSize   = 1
	placeSize  = 6
	headSize   = lengthSize + kindSize + placeSize
	sumSize    = 4
	maxKind    = 255
	maxBody    = 1 << 20
)

// Frame is a body with its length, kind and place ahead of it, and the sum of all these behind it.
func Frame(kind, place int, body []byte) ([]byte, api.Errno) {
	if kind < 0 || kind > maxKind || place < 0 || place > api.MaxNumber || len(body) > maxBody {
		return nil, api.ErrArg
	}
	out := make([]byte, 0, headSize+len(body)+sumSize)
	out = appendHighFirst(out, len(body), lengthSize)
	out = appendHighFirst(out, kind, kindSize)
	out = appendHighFirst(out, place, placeSize)
	out = append(out, body...)
	return appendSum(out), api.OK
}

// Unframe is the first frame of some bytes, and how many bytes it has.
func Unframe(data []byte) (kind, place int, body []byte, used int, e api.Errno) {
	if len(data) < headSize {
		return 0, 0, nil, 0, api.OK
	}
	length, kind, place := readHead(data)
	// Ahead of asking for more bytes: those of a head that can't be would be waited for in vain.
	if length > maxBody || place > api.MaxNumber {
		return 0, 0, nil, 0, api.ErrBytes
	}
	end := headSize + length
	used = end + sumSize
	if len(data) < used {
		return 0, 0, nil, 0, api.OK
	}
	if !sumIsRight(data[:end], data[end:used]) {
		return 0, 0, nil, 0, api.ErrBytes
	}
	return kind, place, copyBytes(data[headSize:end]), used, api.OK
}

func readHead(data []byte) (length, kind, place int) {
	const kindAt, placeAt = lengthSize, lengthSize + kindSize
	return readHighFirst(data[:kindAt]), readHighFirst(data[kindAt:placeAt]), readHighFirst(data[placeAt:headSize])
}

func appendHighFirst(out []byte, n, size int) []byte {
	for i := size - 1; i >= 0; i-- {
		out = append(out, byte(n>>(8*i)))
	}
	return out
}

func readHighFirst(data []byte) int {
	n := 0
	for _, b := range data {
		n = n<<8 | int(b)
	}
	return n
}

// appendSum puts the lowest byte first: only so is the sum the remainder of the bits in the order in which it takes them, and no change of up to 32 of them side by side is passed over.
func appendSum(out []byte) []byte {
	s := sum(out)
	return append(out, byte(s), byte(s>>8), byte(s>>16), byte(s>>24))
}

func sumIsRight(data, told []byte) bool {
	s := sum(data)
	for i, b := range told {
		if b != byte(s>>(8*i)) {
			return false
		}
	}
	return true
}

// sum is the CRC32C.
func sum(data []byte) uint32 {
	s := ^uint32(0)
	for _, b := range data {
		s ^= uint32(b)
		for range 8 {
			low := s & 1
			s >>= 1
			if low == 1 {
				s ^= 0x82F63B78
			}
		}
	}
	return ^s
}

// copyBytes is nil for no bytes, so that there is one form of none.
func copyBytes(b []byte) []byte {
	return append([]byte(nil), b...)
}
