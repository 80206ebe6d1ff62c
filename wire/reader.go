// Package wire: messages of the name service as bytes.
package wire

import "zone/api"

// reader goes through bytes from the front. After the first thing that cannot
// be read all its methods answer nothing, so that fail stays what was wrong
// first and a caller need not ask after each step.
type reader struct {
	b    string
	at   int
	fail api.Errno
}

// has tells whether b has size bytes from the offset at on.
func has(b string, at, size int) bool {
	return at >= 0 && size >= 0 && size <= len(b)-at
}

// bytes reads so many bytes.
func (r *reader) bytes(size int) string {
	if r.fail != api.OK {
		return ""
	}
	if !has(r.b, r.at, size) {
		r.fail = api.ErrShort
		return ""
	}
	from := r.at
	r.at = from + size
	return r.b[from : from+size]
}

// number reads a number of so many bytes, the high byte first.
func (r *reader) number(size int) int {
	part := r.bytes(size)
	n := 0
	for i := 0; i < len(part); i++ {
		n = n*256 + int(part[i])
	}
	return n
}
