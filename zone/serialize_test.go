package zone_test

import (
	"fmt"
	"strings"
	"testing"

	"zone/api"
	"zone/zone"
)

// ask: a message with ID 7 and these questions, of type 1 and class 1.
func ask(names ...string) api.Message {
	m := api.Message{ID: 7}
	for _, n := range names {
		m.Questions = append(m.Questions, api.Question{Name: n, Type: 1, Class: 1})
	}
	return m
}

// tell: a message with ID 7 and these answers.
func tell(l ...api.Record) api.Message { return api.Message{ID: 7, Answers: l} }

// rec: a record of class 1 and with the time to live 9.
func rec(name string, kind int, data string) api.Record {
	return api.Record{Name: name, Type: kind, Class: 1, TTL: 9, Data: data}
}

// filler: a record that takes size bytes and has no name that could become known.
func filler(size int) api.Record { return rec("\x00", 999, strings.Repeat("f", size-11)) }

// brief: a message as Go writes it, cut off where it gets long.
func brief(m api.Message) string { return fmt.Sprintf("%.1000s", fmt.Sprintf("%#v", m)) }

// wantBytes: Serialize of m is these bytes, and they are read back (P9).
func wantBytes(t *testing.T, what string, m api.Message, want string) {
	t.Helper()
	b, e := zone.Serialize(m)
	if e != api.OK || b != want {
		t.Errorf("%s: Serialize(%s) = %.400x, %d, want %.400x", what, brief(m), b, e, want)
		return
	}
	wantMessage(t, what+": P9", b, m)
}

// wantNoBytes: Serialize of m tells the error, and nothing beside it.
func wantNoBytes(t *testing.T, what string, m api.Message, want api.Errno) {
	t.Helper()
	if b, e := zone.Serialize(m); e != want || b != "" {
		t.Errorf("%s: Serialize(%s) = %.80x, %d, want %d", what, brief(m), b, e, want)
	}
}

func TestExamplesSerialize(t *testing.T) {
	two := "\x00\x00\x00\x00\x00\x02\x00\x00\x00\x00\x00\x00"
	m := ask("\x01b\x01a\x00", "\x01a\x00")
	m.ID = 0
	wantBytes(t, "b.a and a", m, two+"\x01b\x01a\x00\x00\x01\x00\x01\xc0\x0e\x00\x01\x00\x01")
	m = ask("\x01A\x00", "\x01a\x00")
	m.ID = 0
	wantBytes(t, "A and a", m, two+"\x01A\x00\x00\x01\x00\x01\x01a\x00\x00\x01\x00\x01")
}

func TestP7AllParts(t *testing.T) {
	m, e := zone.Parse(rich())
	if e != api.OK {
		t.Fatalf("P7: Parse tells %d", e)
	}
	// The names in it are as short as Serialize makes them.
	wantBytes(t, "P7: all parts", m, rich())
}

func TestP7Numbers(t *testing.T) {
	wantBytes(t, "P7: nothing", api.Message{}, strings.Repeat("\x00", 12))
	wantBytes(t, "P7: lists that are empty", api.Message{Questions: []api.Question{}, Answers: []api.Record{}, Authority: []api.Record{}, Extra: []api.Record{}}, strings.Repeat("\x00", 12))
	wantBytes(t, "P7: greatest ID", api.Message{ID: 65535}, "\xff\xff"+strings.Repeat("\x00", 10))
	wantBytes(t, "P7: greatest Flags", api.Message{Flags: 65535}, "\x00\x00\xff\xff"+strings.Repeat("\x00", 8))
	wantBytes(t, "P7: ID and Flags", api.Message{ID: 0x0102, Flags: 0xfdfc}, "\x01\x02\xfd\xfc"+strings.Repeat("\x00", 8))
	wantBytes(t, "P7: a question's numbers", api.Message{Questions: []api.Question{{Name: "\x00", Type: 0xfeff, Class: 0x0102}}},
		"\x00\x00\x00\x00\x00\x01\x00\x00\x00\x00\x00\x00"+"\x00\xfe\xff\x01\x02")
	wantBytes(t, "P7: a record's numbers", api.Message{Extra: []api.Record{{Name: "\x00", Type: 0x0102, Class: 0xfeff, TTL: 0x01020304, Data: "x"}}},
		"\x00\x00\x00\x00\x00\x00\x00\x00\x00\x00\x00\x01"+"\x00\x01\x02\xfe\xff\x01\x02\x03\x04\x00\x01x")
	wantBytes(t, "P7: greatest time to live", api.Message{Authority: []api.Record{{Name: "\x00", TTL: 1<<32 - 1}}},
		"\x00\x00\x00\x00\x00\x00\x00\x00\x00\x01\x00\x00"+"\x00\x00\x00\x00\x00\xff\xff\xff\xff\x00\x00")
	many := ask(strings.Split(strings.Repeat("\x00,", 299)+"\x00", ",")...)
	wantBytes(t, "P7: 300 questions", many, head(300, 0, 0, 0)+strings.Repeat(question("\x00"), 300))
	many = tell()
	for range 258 {
		many.Answers = append(many.Answers, rec("\x00", 999, ""))
	}
	wantBytes(t, "P7: 258 answers", many, head(0, 258, 0, 0)+strings.Repeat(record("\x00", 999, ""), 258))
	wantBytes(t, "P7: 600 bytes of data", tell(filler(611)), head(0, 1, 0, 0)+record("\x00", 999, strings.Repeat("f", 600)))
}

func TestP7Long(t *testing.T) {
	a := name("a")
	for _, c := range []struct {
		what string
		m    func(more int) api.Message // 65535 bytes, and so many more
	}{
		{"data", func(more int) api.Message { return tell(filler(65535 - 12 + more)) }},
		{"two records", func(more int) api.Message { return tell(filler(40000+more), filler(65535-12-40000)) }},
		{"a question ahead", func(more int) api.Message {
			m := ask(a)
			m.Extra = []api.Record{filler(65535 - 12 - 7 + more)}
			return m
		}},
		{"a short name behind", func(more int) api.Message {
			return tell(rec(a, 999, ""), filler(65535-12-13-12+more), rec(a, 999, ""))
		}},
		{"a short name in the last data", func(more int) api.Message {
			return tell(rec(a, 999, ""), filler(65535-12-13-15+more), rec("\x00", 5, "\x01b"+a))
		}},
		{"a whole name in the last data", func(more int) api.Message {
			return tell(rec(a, 999, ""), filler(65535-12-13-20+more), rec("\x00", 33, "123456"+a))
		}},
	} {
		if b, e := zone.Serialize(c.m(0)); e != api.OK || len(b) != 65535 {
			t.Errorf("P7: %s: %d bytes, %d, want 65535", c.what, len(b), e)
		} else {
			wantMessage(t, "P9: "+c.what, b, c.m(0))
		}
		wantNoBytes(t, "P7: one byte more: "+c.what, c.m(1), api.ErrLong)
		wantNoBytes(t, "P7: some bytes more: "+c.what, c.m(20), api.ErrLong)
	}
}

func TestP7MessageBeforeLong(t *testing.T) {
	for k := range 4 {
		m := tell(filler(65000), filler(65000))
		wantNoBytes(t, "P7: too long", m, api.ErrLong)
		switch k {
		case 0:
			m.Flags = -1
		case 1:
			m.Answers = append(m.Answers, rec("\x00", 1, "abc"))
		case 2:
			m.Authority = []api.Record{rec("\x01", 999, "")}
		case 3:
			m.Extra = []api.Record{filler(65000), filler(65000), rec("\x00", 41, ""), rec("\x00", 41, "")}
		}
		wantNoBytes(t, "P7: too long, and not well made", m, api.ErrMessage)
	}
}

func TestP1SerializeEnds(t *testing.T) {
	// As many tails as can be known, and as many names that are not.
	var l []string
	for i := range 253 {
		b := []byte(strings.Repeat("\x01a", 127) + "\x00")
		b[len(b)-2] = byte(i)
		l = append(l, string(b))
	}
	if b, e := zone.Serialize(ask(l[:252]...)); e != api.OK || len(b) != 12+252*259 {
		t.Errorf("P1: long names: %d bytes, %d", len(b), e)
	}
	wantNoBytes(t, "P1: one long name more", ask(l...), api.ErrLong)
	most := make([]api.Record, 65535)
	for i := range most {
		most[i] = rec(l[i%200], 5, l[i/300])
	}
	wantNoBytes(t, "P1: full lists", api.Message{Answers: most, Authority: most, Extra: most}, api.ErrLong)
}
