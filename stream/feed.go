package stream

// head is how many bytes a message's length takes.
const head = 2

// block is how many bytes may gather in late.
const block = 256

// Feed holds what was pushed and is not part of a message that was given:
// first early, then late. They are two, so that a message that comes byte by
// byte is not copied whole at each of them; and they are strings, so that a
// Feed that was copied goes its own way.
type Feed struct {
	early, late string
}

// Push takes a chunk, and gives the messages that are whole with it (P11).
func (x *Feed) Push(chunk string) []string {
	x.late = x.late + chunk
	if x.waits() {
		return nil
	}
	var l []string
	held := x.early + x.late
	message, rest, found := first(held)
	for found {
		l = append(l, message)
		held = rest
		message, rest, found = first(held)
	}
	// A copy: a part of a string would keep all of it in memory.
	x.early = string([]byte(held))
	x.late = ""
	return l
}

// Left tells how many bytes are held (P11).
func (x *Feed) Left() int { return len(x.early) + len(x.late) }

// waits tells that no message can be whole yet and late may still grow.
func (x *Feed) waits() bool {
	return len(x.late) < block && x.Left() < size(x.early)
}

// size tells how many bytes the first message of b takes, with its length; if
// b ends within the length, those of the length alone.
func size(b string) int {
	if len(b) < head {
		return head
	}
	return head + 256*int(b[0]) + int(b[1])
}

// first gives the first message of b and what is behind it; or false, if it is
// not whole.
func first(b string) (string, string, bool) {
	end := size(b)
	if len(b) < end {
		return "", "", false
	}
	return b[head:end], b[end:], true
}
