package zone_test

import (
	"reflect"
	"strings"
	"testing"

	"zone/api"
	"zone/zone"
)

// word: a number of two bytes.
func word(n int) string { return string([]byte{byte(n >> 8), byte(n)}) }

// long: a number of four bytes.
func long(n int) string { return word(n>>16) + word(n) }

// head: the twelve bytes ahead, with ID 7 and Flags 0.
func head(questions, answers, authority, extra int) string {
	return word(7) + word(0) + word(questions) + word(answers) + word(authority) + word(extra)
}

// name: a name, whole.
func name(labels ...string) string {
	s := ""
	for _, l := range labels {
		s += string([]byte{byte(len(l))}) + l
	}
	return s + "\x00"
}

// pointer: the two bytes of a pointer.
func pointer(to int) string { return word(0xc000 + to) }

// question: a question as bytes, of type 1 and class 1.
func question(name string) string { return name + word(1) + word(1) }

// record: a record as bytes, of class 1 and with the time to live 9.
func record(name string, kind int, data string) string {
	return name + word(kind) + word(1) + long(9) + word(len(data)) + data
}

// like: the messages are the same, an empty list taken as nil.
func like(a, b api.Message) bool {
	return a.ID == b.ID && a.Flags == b.Flags &&
		likeLists(a.Questions, b.Questions) && likeLists(a.Answers, b.Answers) &&
		likeLists(a.Authority, b.Authority) && likeLists(a.Extra, b.Extra)
}

func likeLists[T any](a, b []T) bool {
	return len(a) == 0 && len(b) == 0 || reflect.DeepEqual(a, b)
}

// wantError: Parse refuses b so, and answers nothing beside it.
func wantError(t *testing.T, what, b string, want api.Errno) {
	t.Helper()
	m, e := zone.Parse(b)
	if e != want {
		t.Errorf("%s: Parse(%.80x) tells %d, want %d", what, b, e, want)
	}
	if e != api.OK && !like(m, api.Message{}) {
		t.Errorf("%s: Parse(%.80x) answers %#v beside the error %d", what, b, m, e)
	}
}

// wantMessage: Parse of b is the message.
func wantMessage(t *testing.T, what, b string, want api.Message) {
	t.Helper()
	m, e := zone.Parse(b)
	if e != api.OK || !like(m, want) {
		t.Errorf("%s: Parse(%.80x) = %#v, %d, want %#v", what, b, m, e, want)
	}
}

// wantName: Parse of b gives its last question the name want.
func wantName(t *testing.T, what, b, want string) {
	t.Helper()
	m, e := zone.Parse(b)
	if e != api.OK || len(m.Questions) == 0 {
		t.Errorf("%s: Parse(%.80x) tells %d and %d questions", what, b, e, len(m.Questions))
		return
	}
	if got := m.Questions[len(m.Questions)-1].Name; got != want {
		t.Errorf("%s: Parse(%.80x) reads the name %x, want %x", what, b, got, want)
	}
}

// wantData: Parse of a message of one answer, of the type, gives these data.
func wantData(t *testing.T, what string, kind int, data, want string) {
	t.Helper()
	b := head(0, 1, 0, 0) + record("\x00", kind, data)
	m := api.Message{ID: 7, Answers: []api.Record{{Name: "\x00", Type: kind, Class: 1, TTL: 9, Data: want}}}
	if kind == api.TypeOPT {
		b = head(0, 0, 0, 1) + record("\x00", kind, data)
		m.Answers, m.Extra = nil, m.Answers
	}
	wantMessage(t, what, b, m)
}

// dataAt is the offset of the data in the messages of wantData.
const dataAt = 23

// rich: a message with something of everything that can be read.
func rich() string {
	b := word(0x1234) + word(0x8180) + word(2) + word(4) + word(3) + word(4)
	b += name("www", "Svc", "mesh") + word(255) + word(254)
	b += "\x01x" + pointer(16) + word(28) + word(1)
	b += record(pointer(12), api.TypeA, "\x0a\x00\x00\x01")
	b += record("\x02ab"+pointer(20), api.TypeAAAA, "0123456789abcdef")
	b += record(pointer(16), api.TypeCNAME, "\x02n1"+pointer(16))
	b += record(pointer(12), api.TypePTR, name("p"))
	b += record("\x00", api.TypeNS, pointer(20))
	b += record(pointer(20), api.TypeSOA, "\x02ns"+pointer(20)+"\x05admin"+pointer(16)+strings.Repeat("\x00\x01\x02\x03\x04", 4))
	b += record(pointer(12), api.TypeSRV, word(1)+word(2)+word(80)+name("n1", "svc"))
	b += record(pointer(12), api.TypeTXT, "\x00\x03abc\x01z")
	b += record("\x00", api.TypeOPT, word(3)+word(2)+"xy"+word(4)+word(0))
	b += record("\x00", 4660, "\xff\xc0\x40anything")
	b += record(name("last"), 0, "")
	return b
}
