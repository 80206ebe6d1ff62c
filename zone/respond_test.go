package zone_test

import (
	"math/rand"
	"slices"
	"strings"
	"testing"

	"zone/api"
	"zone/zone"
)

// web: the news of the document's last line.
func web() []api.Event {
	return []api.Event{{Kind: api.Alive, Node: "n1", Inc: 3, Addr: addr4, Port: 80, Alias: "www"}}
}

// wanting: a message that asks for one thing, of class 1; ID 7, Flags 0x0100.
func wanting(name string, kind int) api.Message {
	return api.Message{ID: 7, Flags: 0x0100, Questions: []api.Question{{Name: name, Type: kind, Class: 1}}}
}

// with: the message with an OPT behind its extra records.
func with(m api.Message, class, life int) api.Message {
	m.Extra = append(slices.Clone(m.Extra), api.Record{Name: "\x00", Type: 41, Class: class, TTL: life})
	return m
}

// opt: the OPT of an answer.
func opt(life int) api.Record { return api.Record{Name: "\x00", Type: 41, Class: 4096, TTL: life} }

// written: the bytes of a message.
func written(t *testing.T, m api.Message) string {
	t.Helper()
	b, e := zone.Serialize(m)
	if e != api.OK {
		t.Fatalf("Serialize(%s) tells %d", brief(m), e)
	}
	return b
}

// wantReply: the answer to the bytes of m is, over a stream or not, the
// message want; and so says the model.
func wantReply(t *testing.T, what string, l []api.Event, m, want api.Message) {
	t.Helper()
	q := written(t, m)
	for _, stream := range []bool{false, true} {
		b := zone.Respond(l, q, stream)
		if b != written(t, want) {
			got, e := zone.Parse(b)
			t.Errorf("%s: Respond(%.200x, %v) = %.400x, %d: %s, want %s", what, q, stream, b, e, brief(got), brief(want))
		}
		if b := modelRespond(l, q, stream); b != written(t, want) {
			t.Errorf("%s: the model of %.200x, %v says %.400x, want %s", what, q, stream, b, brief(want))
		}
	}
}

// wantSilence: there is no answer to q.
func wantSilence(t *testing.T, what, q string) {
	t.Helper()
	for _, stream := range []bool{false, true} {
		if b := zone.Respond(web(), q, stream); b != "" {
			t.Errorf("P14: %s: Respond(%.80x, %v) = %.80x, want nothing", what, q, stream, b)
		}
	}
}

// wantBadForm: q, which cannot be read, is answered by these flags and twelve bytes alone.
func wantBadForm(t *testing.T, what, q string, flags int) {
	t.Helper()
	want := q[:2] + word(flags) + "\x00\x00\x00\x00\x00\x00\x00\x00"
	for _, stream := range []bool{false, true} {
		if b := zone.Respond(web(), q, stream); b != want {
			t.Errorf("P14: %s: Respond(%.80x, %v) = %.80x, want %x", what, q, stream, b, want)
		}
	}
}

const exampleAsk = "\x00\x07\x01\x00\x00\x01\x00\x00\x00\x00\x00\x00\x02N1\x03svc\x04mesh\x00\x00\x01\x00\x01"

func TestExamplesRespond(t *testing.T) {
	up := "\x00\x07\x85\x00\x00\x01\x00\x01\x00\x00\x00\x00" + exampleAsk[12:] + "\x02n1\xc0\x0f\x00\x01\x00\x01\x00\x00\x00\x1e\x00\x04\x0a\x00\x00\x01"
	none := "\x00\x07\x85\x03\x00\x01\x00\x00\x00\x01\x00\x00" + exampleAsk[12:] + "\xc0\x0f\x00\x06\x00\x01\x00\x00\x00\x1e\x00\x21" +
		"\x02ns\xc0\x0f\x05admin\xc0\x0f\x00\x00\x00\x00\x00\x00\x0e\x10\x00\x00\x02\x58\x00\x01\x51\x80\x00\x00\x00\x1e"
	for _, c := range []struct {
		l       []api.Event
		q, want string
	}{
		{web(), exampleAsk, up},
		{nil, exampleAsk, none},
		{web(), exampleAsk[:11], ""},
		{web(), exampleAsk[:12], "\x00\x07\x81\x01\x00\x00\x00\x00\x00\x00\x00\x00"},
	} {
		for _, stream := range []bool{false, true} {
			if b := zone.Respond(c.l, c.q, stream); b != c.want {
				t.Errorf("P14 to P17: Respond(%x, %v) = %x, want %x", c.q, stream, b, c.want)
			}
		}
	}
}

func TestP14Silence(t *testing.T) {
	for size := range 12 {
		wantSilence(t, "a part of a head", exampleAsk[:size])
		wantSilence(t, "zeroes", strings.Repeat("\x00", size))
		wantSilence(t, "high bytes", strings.Repeat("\x7f", size))
	}
	m := wanting(node("n1"), 1)
	m.Extra = []api.Record{filler(65535 - 29)}
	longest := written(t, m)
	if len(longest) != 65535 {
		t.Fatalf("the longest question has %d bytes", len(longest))
	}
	wantReply(t, "P14: the longest", web(), m, api.Message{ID: 7, Flags: 0x8500, Questions: m.Questions, Answers: []api.Record{own(node("n1"), 1, addr4)}})
	wantSilence(t, "one byte more", longest+"x")
	wantSilence(t, "far more", strings.Repeat("\x00", 1<<20))
	wantBadForm(t, "the longest zeroes", strings.Repeat("\x00", 65535), 0x8001)
	wantSilence(t, "too long", strings.Repeat("\x00", 65536))
	for _, q := range []string{exampleAsk, exampleAsk[:12], exampleAsk + "x"} {
		wantSilence(t, "an answer", q[:2]+"\x80"+q[3:])
		wantSilence(t, "an answer", q[:2]+"\xff"+q[3:])
	}
}

// TestP14Flags: each value of the flags, for a question and for bytes that cannot be read.
func TestP14Flags(t *testing.T) {
	for flags := range 65536 {
		good := exampleAsk[:2] + word(flags) + exampleAsk[4:]
		bad := good[:20]
		b, c := zone.Respond(web(), good, false), zone.Respond(web(), bad, false)
		if flags >= 0x8000 {
			if b != "" || c != "" {
				t.Fatalf("P14: the flags %x: the answers %x and %x", flags, b, c)
			}
			continue
		}
		kept := 0x8000 + flags&0x7900
		want := kept + 0x0400
		if flags&0x7800 != 0 {
			want = kept + 4
		}
		if b[:4] != word(7)+word(want) || c != word(7)+word(kept+1)+"\x00\x00\x00\x00\x00\x00\x00\x00" {
			t.Fatalf("P14: the flags %x: the answers %x and %x", flags, b, c)
		}
	}
}

func TestP14ID(t *testing.T) {
	for _, id := range []int{0, 1, 255, 256, 0x1234, 0xff00, 65535} {
		wantBadForm(t, "ID", word(id)+exampleAsk[2:13], 0x8101)
		m := wanting(node("n1"), 1)
		m.ID = id
		wantReply(t, "P14: ID", web(), m, api.Message{ID: id, Flags: 0x8500, Questions: m.Questions, Answers: []api.Record{own(node("n1"), 1, addr4)}})
	}
}

// TestP14BadForm: each error of Parse.
func TestP14BadForm(t *testing.T) {
	q := exampleAsk
	for size := 12; size < len(q); size++ {
		wantBadForm(t, "ErrShort", q[:size], 0x8101)
	}
	wantBadForm(t, "ErrRest", q+"\x00", 0x8101)
	wantBadForm(t, "ErrRest, none asked", word(7)+strings.Repeat("\x00", 11), 0x8001)
	one := word(7) + word(0x7fff) + word(1)
	wantBadForm(t, "ErrName", one+strings.Repeat("\x00", 6)+"\x40"+question("\x00"), 0xf901)
	wantBadForm(t, "ErrData", one+word(0)+word(0)+word(1)+question(node("n1"))+record("\x00", 1, "abc"), 0xf901)
	wantBadForm(t, "ErrOpt, among the answers", one+word(1)+word(0)+word(0)+question(node("n1"))+record("\x00", 41, ""), 0xf901)
	wantBadForm(t, "ErrOpt, two", one+word(0)+word(0)+word(2)+question(node("n1"))+record("\x00", 41, "")+record("\x00", 41, ""), 0xf901)
	wantBadForm(t, "an OPT, and then one byte", written(t, with(wanting(node("n1"), 1), 4096, 0))+"x", 0x8101)
}

// TestP15Order: of what does not fit, the first is told.
func TestP15Order(t *testing.T) {
	for k := range 32 {
		m := wanting(node("n1"), 1)
		life := 0x7f00ffff
		if k&1 != 0 {
			m.Questions[0].Class = 3
		}
		if k&2 != 0 {
			m.Questions[0].Name = name("n1", "svc", "mesh", "x")
		}
		if k&4 != 0 {
			life = 0x7f01ffff
		}
		if k&8 != 0 {
			m.Flags = 0x1100
		}
		want := api.Message{ID: 7, Flags: 0x8000 + m.Flags, Questions: m.Questions, Extra: []api.Record{opt(0)}}
		switch {
		case k >= 16:
			m.Questions = append(m.Questions, m.Questions[0])
			want.Flags, want.Questions = want.Flags+1, nil
		case k >= 8:
			want.Flags += 4
		case k >= 4:
			want.Extra[0].TTL = 1 << 24
		case k >= 1:
			want.Flags += 5
		default:
			want.Flags, want.Answers = 0x8500, []api.Record{own(node("n1"), 1, addr4)}
		}
		wantReply(t, "P15: order", web(), with(m, 512, life), want)
	}
}

func TestP15Questions(t *testing.T) {
	for _, count := range []int{0, 2, 3, 200} {
		m := api.Message{ID: 7, Flags: 0x0100}
		for range count {
			m.Questions = append(m.Questions, api.Question{Name: node("n1"), Type: 1, Class: 1})
		}
		wantReply(t, "P15: questions", web(), m, api.Message{ID: 7, Flags: 0x8101})
		wantReply(t, "P15: questions, OPT", web(), with(m, 512, 0), api.Message{ID: 7, Flags: 0x8101, Extra: []api.Record{opt(0)}})
		wantReply(t, "P15: questions, OPT of another version", web(), with(m, 512, 255<<16), api.Message{ID: 7, Flags: 0x8101, Extra: []api.Record{opt(0)}})
	}
}

func TestP15Opcode(t *testing.T) {
	for code := range 16 {
		m := wanting(node("N1"), 1)
		m.Flags = code<<11 | 0x07ff
		want := api.Message{ID: 7, Flags: 0x8104 | code<<11, Questions: m.Questions}
		if code == 0 {
			want.Flags, want.Answers = 0x8500, []api.Record{own(node("n1"), 1, addr4)}
		}
		wantReply(t, "P15: opcode", web(), m, want)
		want.Extra = []api.Record{opt(0)}
		wantReply(t, "P15: opcode, OPT", web(), with(m, 512, 0), want)
	}
}

func TestP15Version(t *testing.T) {
	m := wanting(node("N1"), 1)
	fine := api.Message{ID: 7, Flags: 0x8500, Questions: m.Questions, Answers: []api.Record{own(node("n1"), 1, addr4)}, Extra: []api.Record{opt(0)}}
	bad := api.Message{ID: 7, Flags: 0x8100, Questions: m.Questions, Extra: []api.Record{opt(1 << 24)}}
	for version := range 256 {
		for _, rest := range []int{0, 0xffff, 0x01000000, 0xff00ffff} {
			want := bad
			if version == 0 {
				want = fine
			}
			wantReply(t, "P15: version", web(), with(m, 4096, version<<16+rest), want)
		}
	}
	// A record that is no OPT has no version.
	m.Extra = []api.Record{{Name: "\x00", Type: 42, Class: 1, TTL: 1 << 16}}
	fine.Extra = nil
	wantReply(t, "P15: no OPT", web(), m, fine)
}

func TestP15Class(t *testing.T) {
	for _, class := range []int{0, 1, 2, 3, 4, 254, 255, 256, 257, 65535} {
		for _, kind := range []int{1, 255} {
			m := wanting(node("N1"), kind)
			m.Questions[0].Class = class
			want := api.Message{ID: 7, Flags: 0x8105, Questions: m.Questions}
			if class == 1 {
				want.Flags, want.Answers = 0x8500, []api.Record{own(node("n1"), 1, addr4)}
			}
			wantReply(t, "P15: class", web(), m, want)
		}
	}
}

func TestP15Names(t *testing.T) {
	longest := strings.Repeat("\x01x", 122) + api.Origin // 254 bytes
	for _, c := range []struct {
		name  string
		tells int // 5: Refused
	}{
		{"\x00", 5}, {name("mesh"), 5}, {name("svc"), 5}, {name("mesh", "svc"), 5}, {name("x", "mesh"), 5}, {name("svc", "mesh", "x"), 5},
		{name("n1", "svc", "mesh", "svc"), 5}, {name("xsvc", "mesh"), 5}, {name("sv", "mesh"), 5}, {name("svc", "meshx"), 5}, {name("svc", "mes"), 5}, {name("n1", "svc", "x", "mesh"), 5},
		{name("svc.mesh"), 5}, {name("svc\x04mesh"), 5}, {name("\x03svc\x04mesh"), 5}, {name("n1\x03svc", "mesh"), 5}, {name("n1\x03svc\x04mesh"), 5}, {name("x", "\x03svc\x04mesh\x00"), 5},
		{name("svc", "mesh\x00"), 5}, {name("s\x16c", "mesh"), 5}, {name("svc", "mes\x48"), 0}, {name("\xf3vc", "mesh"), 5}, {name("svc", "m\x05sh"), 5},
		{name("svc", "mesh"), 0}, {name("SVC", "MESH"), 0}, {name("sVc", "mESh"), 0}, {name("N1", "sVc", "mESh"), 0},
		{name("x", "svc", "mesh"), 3}, {name("x", "N1", "Svc", "mesh"), 3}, {name("svc", "mesh", "svc", "mesh"), 3}, {name("\x03svc\x04mesh\x00", "svc", "mesh"), 3}, {name("n1\x03svc", "svc", "mesh"), 3},
		{longest, 3}, {strings.ToUpper(longest), 3}, {"\x02xx" + longest[2:], 3}, {longest[:len(longest)-10] + name("svc", "mesi"), 5},
	} {
		m := wanting(c.name, 6)
		soa := start(3)[:1]
		want := api.Message{ID: 7, Flags: 0x8500, Questions: m.Questions}
		switch {
		case c.tells == 5:
			want.Flags = 0x8105
		case c.tells == 3:
			want.Flags, want.Authority = 0x8503, soa
		case len(c.name) == 10:
			want.Answers = soa
		default:
			want.Authority = soa
		}
		wantReply(t, "P15: names", web(), m, want)
		want.Extra = []api.Record{opt(0)}
		wantReply(t, "P15: names, OPT", web(), with(m, 0, 0), want)
	}
}

// TestP15RestOfTheQuestion: of m nothing else is looked at.
func TestP15RestOfTheQuestion(t *testing.T) {
	m := wanting(node("N1"), 1)
	want := api.Message{ID: 7, Flags: 0x8500, Questions: m.Questions, Answers: []api.Record{own(node("n1"), 1, addr4)}}
	m.Answers = []api.Record{rec(node("n1"), 1, "abcd"), rec(node("n1"), 5, node("n2"))}
	m.Authority = []api.Record{rec(api.Origin, 6, start(9)[0].Data)}
	m.Extra = []api.Record{rec(node("n1"), 16, "\x01t")}
	wantReply(t, "P15: more records", web(), m, want)
	want.Extra = []api.Record{opt(0)}
	wantReply(t, "P15: an OPT behind others", web(), with(m, 512, 0), want)
	m = with(m, 512, 0)
	m.Extra[1].Data = word(10) + word(8) + "12345678"
	m.Extra = append(m.Extra, rec(node("n1"), 28, addr6))
	wantReply(t, "P15: an OPT between others, with options", web(), m, want)
}

// TestP15Pointer: a question whose name has a pointer is answered with the name whole.
func TestP15Pointer(t *testing.T) {
	// The last byte of the head is a 0, to which the name may point.
	q := head(1, 0, 0, 0) + "\x03SVC\x04mesh" + pointer(11) + word(6) + word(1)
	want := api.Message{ID: 7, Flags: 0x8400, Questions: []api.Question{{Name: name("SVC", "mesh"), Type: 6, Class: 1}}, Answers: start(0)[:1]}
	if b := zone.Respond(nil, q, false); b != written(t, want) {
		t.Errorf("P15: the answer to %x is %x, want %x", q, b, written(t, want))
	}
}

// TestP2Respond: nothing is written into the news or behind them, and the same is answered again.
func TestP2Respond(t *testing.T) {
	r := rand.New(rand.NewSource(10))
	for range 300 {
		var all []api.Event
		for range 20 {
			all = append(all, anyNews(r))
		}
		before := slices.Clone(all)
		l := all[:r.Intn(len(all)+1)]
		var asked, first []string
		for range 10 {
			q := written(t, wanting(api.Service, 33))
			if b, e := zone.Serialize(anyAsk(r)); e == api.OK {
				q = b
			}
			asked, first = append(asked, q), append(first, zone.Respond(l, q, true))
		}
		for k := len(asked) - 1; k >= 0; k-- {
			if b := zone.Respond(l, asked[k], true); b != first[k] {
				t.Fatalf("P2: Respond(%x) was %x, now %x", asked[k], first[k], b)
			}
		}
		if !slices.Equal(all, before) {
			t.Fatalf("P2: the news were written into: %+v, before %+v", all, before)
		}
	}
}
