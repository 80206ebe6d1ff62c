package wire

import (
	"zone/api"
	"zone/number"
)

// tail is a tail that is known, and the offset at which it is (P8).
type tail struct {
	name string
	at   int
}

// writer puts bytes one behind the other.
type writer struct {
	b     []byte
	known []tail
}

// bytes writes bytes as they are.
func (w *writer) bytes(s string) {
	w.b = append(w.b, s...)
}

// word writes a number of two bytes.
func (w *writer) word(n int) {
	s := number.Word(n)
	w.bytes(s)
}

// name writes a name, short.
func (w *writer) name(name string) {
	at := len(w.b)
	s := w.short(name, at)
	w.bytes(s)
}

// short gives the bytes of a short name that is written at the offset at, and
// makes its tails known (P8).
func (w *writer) short(name string, at int) string {
	from := 0
	for has(name, from, 2) {
		rest := name[from:]
		to := w.find(rest)
		if to >= 0 {
			return name[:from] + number.Word(256*firstPointer+to)
		}
		// No tail of this name is as long as another one of it, so what
		// becomes known here is not found again before the next name.
		w.learn(rest, at+from)
		from = from + 1 + int(name[from])
	}
	return name
}

// find gives the least offset at which a tail is known, or -1.
func (w *writer) find(name string) int {
	// The offsets rise through the list: the first is the least.
	for i := 0; i < len(w.known); i++ {
		if w.known[i].name == name {
			return w.known[i].at
		}
	}
	return -1
}

// learn makes a tail known, if a pointer can name its offset.
func (w *writer) learn(name string, at int) {
	if at <= api.MaxPointer {
		w.known = append(w.known, tail{name: name, at: at})
	}
}
