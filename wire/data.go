package wire

import "zone/api"

// The sizes of data, or of their parts, that the type fixes.
const (
	sizeA    = 4
	sizeAAAA = 16
	restSOA  = 20 // behind the names
	headSRV  = 6  // ahead of the name
)

// namesIn tells how many names with which data of the type begin may have a
// pointer, and how many bytes are behind them.
func namesIn(kind int) (int, int) {
	switch kind {
	case api.TypeNS, api.TypeCNAME, api.TypePTR:
		return 1, 0
	case api.TypeSOA:
		return 2, restSOA
	}
	return 0, 0
}

// wholeData gives the data raw, which stand in b at the offset at, with their
// names whole; or false, if they are not as the type says (P5).
func wholeData(b string, at int, raw string, kind int) (string, bool) {
	names, rest := namesIn(kind)
	if names > 0 {
		return wholeNames(b, at, len(raw), names, rest)
	}
	if !fitsPlain(raw, kind) {
		return "", false
	}
	return raw, true
}

// wholeNames is wholeData for data of size bytes that are so many names, and
// rest bytes behind them. It reads in all of b: a name may point out of the data.
func wholeNames(b string, at, size, names, rest int) (string, bool) {
	r := reader{b: b, at: at}
	whole := ""
	for i := 0; i < names; i++ {
		name := r.name()
		whole = whole + name
	}
	behind := r.bytes(rest)
	if r.fail != api.OK || r.at != at+size {
		return "", false
	}
	return whole + behind, true
}

// fitsPlain tells whether data in which no pointer may stand are as their type says.
func fitsPlain(raw string, kind int) bool {
	switch kind {
	case api.TypeA:
		return len(raw) == sizeA
	case api.TypeAAAA:
		return len(raw) == sizeAAAA
	case api.TypeSRV:
		return isService(raw)
	case api.TypeTXT:
		return raw != "" && isRow(raw, 0, 1)
	case api.TypeOPT:
		return isRow(raw, 2, 2)
	}
	return true
}

// isService tells whether raw is the data of an SRV.
func isService(raw string) bool {
	name := readRun(raw, headSRV, api.MaxName-1)
	return name.fail == api.OK && !name.pointed && name.next == len(raw)
}

// isRow tells whether raw is a row of pieces: ahead bytes of any values, a
// number of width bytes, and so many bytes as it says.
func isRow(raw string, ahead, width int) bool {
	r := reader{b: raw}
	for r.fail == api.OK && r.at < len(raw) {
		r.bytes(ahead)
		size := r.number(width)
		r.bytes(size)
	}
	return r.fail == api.OK
}
