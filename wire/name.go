package wire

import "zone/api"

// firstPointer is the least byte that begins a pointer.
const firstPointer = 192

// run is what stands at one offset of a name: labels, and a 0 or a pointer.
type run struct {
	labels  string // each with its length ahead
	next    int    // the offset behind the 0 or the pointer
	pointed bool   // the name goes on, at the offset to
	to      int
	fail    api.Errno
}

// readRun reads the run that begins at start (P4); its labels, each with its
// length, may take at most room bytes.
func readRun(b string, start, room int) run {
	at := start
	for has(b, at, 1) {
		size := int(b[at])
		if size == 0 {
			return run{labels: b[start:at], next: at + 1}
		}
		if size > api.MaxLabel {
			return endByPointer(b, start, at)
		}
		if !has(b, at+1, size) {
			return run{fail: api.ErrShort}
		}
		at = at + 1 + size
		// Not before the label is there: bytes that end within it are
		// ErrShort, however long the name would be.
		if at-start > room {
			return run{fail: api.ErrName}
		}
	}
	return run{fail: api.ErrShort}
}

// endByPointer ends the run that began at start, at a byte that is neither 0
// nor the length of a label.
func endByPointer(b string, start, at int) run {
	if start < 0 || start > at || !has(b, at, 1) {
		return run{fail: api.ErrShort}
	}
	high := int(b[at]) - firstPointer
	if high < 0 {
		return run{fail: api.ErrName}
	}
	if !has(b, at, 2) {
		return run{fail: api.ErrShort}
	}
	to := 256*high + int(b[at+1])
	// Each run begins below the one before it, so no name goes round in circles.
	if to >= start {
		return run{fail: api.ErrName}
	}
	return run{labels: b[start:at], next: at + 2, pointed: true, to: to}
}

// name reads a name, and gives it whole.
func (r *reader) name() string {
	if r.fail != api.OK {
		return ""
	}
	part := readRun(r.b, r.at, api.MaxName-1)
	next := part.next
	labels := part.labels
	for part.pointed {
		part = readRun(r.b, part.to, api.MaxName-1-len(labels))
		labels = labels + part.labels
	}
	if part.fail != api.OK {
		r.fail = part.fail
		return ""
	}
	// Only the first run is the name's own: the others stand elsewhere.
	r.at = next
	return labels + api.Root
}
