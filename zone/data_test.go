package zone_test

import (
	"strings"
	"testing"

	"zone/api"
)

func TestP5Fits(t *testing.T) {
	z20 := strings.Repeat("z", 20)
	longest := labels(254) + "\x00"
	b := name("b")
	for _, c := range []struct {
		what       string
		kind       int
		data, want string
	}{
		{"A", 1, "\xff\x00\xc0\x0c", "\xff\x00\xc0\x0c"},
		{"AAAA", 28, "\xc0\x0c23456789abcdef", "\xc0\x0c23456789abcdef"},
		{"NS: the root", 2, "\x00", "\x00"},
		{"NS: whole", 2, name("N", "s"), name("N", "s")},
		{"NS: a pointer", 2, "\x01b" + pointer(12), b},
		{"NS: a pointer into the numbers", 2, "\x01b" + pointer(7), "\x01b\x01\x00\x00"},
		{"NS: the longest", 2, longest, longest},
		{"CNAME", 5, "\x01b" + pointer(12), b},
		{"PTR", 12, "\x01b" + pointer(12), b},
		{"SOA: whole", 6, b + name("c") + z20, b + name("c") + z20},
		{"SOA: roots", 6, "\x00\x00" + z20, "\x00\x00" + z20},
		{"SOA: the second points to the first", 6, "\x01b\x00\x01c" + pointer(dataAt) + z20, b + name("c", "b") + z20},
		{"SOA: both point", 6, pointer(12) + pointer(dataAt) + z20, "\x00\x00" + z20},
		{"SOA: the longest", 6, longest + longest + z20, longest + longest + z20},
		{"SOA: bytes like pointers behind", 6, "\x00\x00" + strings.Repeat("\xc0\x0c", 10), "\x00\x00" + strings.Repeat("\xc0\x0c", 10)},
		{"SRV", 33, "\xc0\x0c\x40\x00\x00\x50" + name("A", "b"), "\xc0\x0c\x40\x00\x00\x50" + name("A", "b")},
		{"SRV: the root", 33, "123456\x00", "123456\x00"},
		{"SRV: the longest", 33, "123456" + longest, "123456" + longest},
		{"TXT: one", 16, "\x03abc", "\x03abc"},
		{"TXT: an empty one", 16, "\x00", "\x00"},
		{"TXT: three", 16, "\x01a\x00\x02\xc0\x0c", "\x01a\x00\x02\xc0\x0c"},
		{"TXT: the longest", 16, "\xff" + strings.Repeat("t", 255), "\xff" + strings.Repeat("t", 255)},
		{"OPT: none", 41, "", ""},
		{"OPT: an empty one", 41, "\x00\x01\x00\x00", "\x00\x01\x00\x00"},
		{"OPT: two", 41, "\xff\xff\x00\x03abc\x00\x01\x00\x00", "\xff\xff\x00\x03abc\x00\x01\x00\x00"},
		{"OPT: a long one", 41, "\x00\x01\x01\x02" + strings.Repeat("o", 258), "\x00\x01\x01\x02" + strings.Repeat("o", 258)},
		{"another type: none", 999, "", ""},
		{"another type: no name", 3, "\x40\xc0\xff", "\x40\xc0\xff"},
		{"another type: a pointer", 15, "\x00\x0a\xc0\x0c", "\x00\x0a\xc0\x0c"},
		{"type 0", 0, "\xff", "\xff"},
		{"type 255", 255, "\xff", "\xff"},
		{"a type with the low byte of A", 257, "\xff", "\xff"},
		{"the greatest type", 65535, "\xff", "\xff"},
	} {
		wantData(t, "P5: "+c.what, c.kind, c.data, c.want)
	}
}

func TestP5FitsNot(t *testing.T) {
	z20 := strings.Repeat("z", 20)
	for _, c := range []struct {
		what string
		kind int
		data []string
	}{
		{"A", 1, []string{"", "abc", "abcde", "0123456789abcdef"}},
		{"AAAA", 28, []string{"", "abcd", "0123456789abcde", "0123456789abcdefg"}},
		{"SOA", 6, []string{"", "\x00", "\x00\x00", "\x00" + z20, "\x00\x00" + z20[1:], "\x00\x00\x00" + z20, "\x00\x00" + z20 + "z",
			"\x40\x00" + z20, "\x00\x40" + z20, pointer(dataAt) + "\x00" + z20, "\x00" + pointer(dataAt+1) + z20, "\x00" + "\x01b" + pointer(dataAt+1) + z20,
			"\x00" + labels(255) + "\x00" + z20, "\x00\x3f" + z20, "\x00\xc0"}},
		{"SRV", 33, []string{"", "12345", "123456", "12345\x00", "123456\x01a", "123456\x02a\x00", "123456\x01a\x00\x00", "123456\x00\x00",
			"123456" + pointer(12), "123456\x01a" + pointer(12), "123456\x01a" + pointer(0), "123456" + pointer(dataAt), "123456\x01a\xc0",
			"123456\x40", "123456\xbf", "123456" + labels(255) + "\x00"}},
		{"TXT", 16, []string{"", "\x01", "\x03ab", "\x00\x01", "\x01a\x02b", "\xff" + strings.Repeat("t", 254)}},
		{"OPT", 41, []string{"\x00", "\x00\x01", "\x00\x01\x00", "\x00\x01\x00\x01", "\x00\x01\x00\x00\x00", "\x00\x01\x00\x02x", "\x00\x01\x01\x00x", "\x00\x01\x00\x01xy"}},
	} {
		for _, data := range c.data {
			wantRefused(t, "P5: "+c.what, c.kind, data)
		}
	}
	for _, kind := range []int{2, 5, 12} {
		for _, data := range []string{"", "\x01", "\x01a", "\x02a\x00", "\x01a\x00\x00", "\x00\x00", "\x01a\xc0", "\xc0", pointer(12) + "\x00",
			pointer(dataAt), pointer(dataAt + 1), "\x01a" + pointer(dataAt), "\x40", "\xbf", labels(255) + "\x00", labels(255) + pointer(12)} {
			wantRefused(t, "P5: a name", kind, data)
		}
	}
}

// wantRefused: such data are ErrData, last in a message and ahead of bytes
// that would make up for what is missing.
func wantRefused(t *testing.T, what string, kind int, data string) {
	t.Helper()
	r := record("\x00", kind, data)
	wantError(t, what, head(0, 0, 0, 1)+r, api.ErrData)
	wantError(t, what+", 0 behind", head(0, 0, 0, 1)+r+strings.Repeat("\x00", 600), api.ErrData)
	wantError(t, what+", a record behind", head(0, 0, 0, 2)+r+record("\x00", 999, strings.Repeat("\x01", 300)), api.ErrData)
}

func TestP5PointersOutOfTheData(t *testing.T) {
	// The time to live ends in a 3: the run that begins there takes the
	// length and the first byte of the data as a label, and what is behind
	// the data as another.
	b := head(0, 2, 0, 0) + "\x00" + word(2) + word(1) + long(3) + word(2) + pointer(20) +
		"\x01q\x00" + word(999) + word(1) + long(9) + word(0)
	// At 20: 3, 21: 0 2 192, 24: 20, which is a label of 20 bytes: too few.
	wantError(t, "P5: a later run that the bytes end within", b, api.ErrData)
	far := head(0, 2, 0, 0) + "\x00" + word(2) + word(1) + long(4) + word(2) + pointer(20) + "\x00" + word(999) + word(1) + long(9) + word(0)
	wantMessage(t, "P5: a later run that goes on behind the data", far, api.Message{ID: 7, Answers: []api.Record{
		{Name: "\x00", Type: 2, Class: 1, TTL: 4, Data: "\x04\x00\x02\xc0\x14\x00"},
		{Name: "\x00", Type: 999, Class: 1, TTL: 9},
	}})
	known := head(1, 1, 0, 0) + question(name("a", "B")) + record(pointer(12), 5, "\x01c"+pointer(14))
	wantMessage(t, "P5: a pointer to a question", known, api.Message{ID: 7,
		Questions: []api.Question{{Name: name("a", "B"), Type: 1, Class: 1}},
		Answers:   []api.Record{{Name: name("a", "B"), Type: 5, Class: 1, TTL: 9, Data: name("c", "B")}},
	})
	long := head(1, 1, 0, 0) + question(labels(100)+"\x00")
	wantError(t, "P5: a name too long by a pointer", long+record("\x00", 5, labels(155)+pointer(12)), api.ErrData)
	wantError(t, "P5: a name just not too long", long+record("\x00", 5, labels(154)+pointer(12)), api.OK)
}
