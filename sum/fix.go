package sum

import "weir/api"

// Fix is the checksum behind the change of one 16-bit word.
func Fix(check, old, now int) (int, api.Errno) {
	if !isWord(check) || !isWord(old) || !isWord(now) {
		return 0, api.ErrHalf
	}
	return turn(check, uint64(old), uint64(now)), api.OK
}

// FixBytes is the checksum behind the change of some bytes at an even place.
func FixBytes(check int, old, now []byte) (int, api.Errno) {
	if !isWord(check) {
		return 0, api.ErrHalf
	}
	if len(old) != len(now) {
		return 0, api.ErrUnlike
	}
	for i := 0; i < len(old); i += 2 {
		check = turn(check, word(old[i:]), word(now[i:]))
	}
	return check, api.OK
}

// turn adds the opposite of old rather than taking old away: taking away would come out at the other zero where the new sum is one (RFC 1624).
func turn(check int, old, now uint64) int {
	return full - fold(uint64(full-check)+full-old+now)
}

func isWord(n int) bool { return n >= 0 && n <= full }
