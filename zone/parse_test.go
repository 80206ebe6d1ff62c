package zone_test

import (
	"strings"
	"testing"

	"zone/api"
	"zone/zone"
)

func TestExamples(t *testing.T) {
	ahead := "\x00\x01\x00\x00\x00\x01\x00\x00\x00\x00\x00\x00"
	behind := "\x00\x01\x00\x01"
	a := api.Message{ID: 1, Questions: []api.Question{{Name: "\x01a\x00", Type: 1, Class: 1}}}
	wantMessage(t, "twelve 0", strings.Repeat("\x00", 12), api.Message{})
	wantError(t, "eleven 0", strings.Repeat("\x00", 11), api.ErrShort)
	wantError(t, "thirteen 0", strings.Repeat("\x00", 13), api.ErrRest)
	wantMessage(t, "the name a", ahead+"\x01a\x00"+behind, a)
	wantError(t, "a pointer to 12", ahead+"\x01a\xc0\x0c"+behind, api.ErrName)
	wantMessage(t, "a pointer to 11", ahead+"\x01a\xc0\x0b"+behind, a)
	wantError(t, "a length of 64", ahead+"\x40"+behind, api.ErrName)
}

func TestP3AllParts(t *testing.T) {
	www, svc, mesh := name("www", "Svc", "mesh"), name("Svc", "mesh"), name("mesh")
	wantMessage(t, "P3: all parts", rich(), api.Message{
		ID: 0x1234, Flags: 0x8180,
		Questions: []api.Question{
			{Name: www, Type: 255, Class: 254},
			{Name: "\x01x" + svc, Type: 28, Class: 1},
		},
		Answers: []api.Record{
			rec(www, 1, "\x0a\x00\x00\x01"),
			rec("\x02ab"+mesh, 28, "0123456789abcdef"),
			rec(svc, 5, "\x02n1"+svc),
			rec(www, 12, name("p")),
		},
		Authority: []api.Record{
			rec("\x00", 2, mesh),
			rec(mesh, 6, "\x02ns"+mesh+"\x05admin"+svc+strings.Repeat("\x00\x01\x02\x03\x04", 4)),
			rec(www, 33, word(1)+word(2)+word(80)+name("n1", "svc")),
		},
		Extra: []api.Record{
			rec(www, 16, "\x00\x03abc\x01z"),
			rec("\x00", 41, word(3)+word(2)+"xy"+word(4)+word(0)),
			rec("\x00", 4660, "\xff\xc0\x40anything"),
			rec(name("last"), 0, ""),
		},
	})
}

func TestP3Numbers(t *testing.T) {
	wantMessage(t, "P3: greatest numbers ahead", "\xff\xfe\xfd\xfc"+strings.Repeat("\x00", 8), api.Message{ID: 0xfffe, Flags: 0xfdfc})
	wantMessage(t, "P3: a question's numbers", head(1, 0, 0, 0)+"\x00\xfe\xff\x01\x02",
		api.Message{ID: 7, Questions: []api.Question{{Name: "\x00", Type: 0xfeff, Class: 0x0102}}})
	wantMessage(t, "P3: a record's numbers", head(0, 0, 1, 0)+"\x00\x01\x02\x03\x04\xff\xfe\xfd\xfc\x00\x01x",
		api.Message{ID: 7, Authority: []api.Record{{Name: "\x00", Type: 0x0102, Class: 0x0304, TTL: 0xfffefdfc, Data: "x"}}})
	big := strings.Repeat("x", 0x0102)
	wantMessage(t, "P3: a length of two bytes", head(0, 1, 0, 0)+record("\x00", 999, big),
		api.Message{ID: 7, Answers: []api.Record{{Name: "\x00", Type: 999, Class: 1, TTL: 9, Data: big}}})
}

func TestP3ManyQuestions(t *testing.T) {
	m, e := zone.Parse(head(300, 0, 0, 0) + strings.Repeat(question("\x00"), 300))
	if e != api.OK || len(m.Questions) != 300 {
		t.Errorf("P3: 300 questions: %d, %d questions", e, len(m.Questions))
	}
	wantError(t, "P3: 300 said, 299 there", head(300, 0, 0, 0)+strings.Repeat(question("\x00"), 299), api.ErrShort)
	wantError(t, "P3: 300 said, 301 there", head(300, 0, 0, 0)+strings.Repeat(question("\x00"), 301), api.ErrRest)
	wantError(t, "P3: all counts at their greatest", head(65535, 65535, 65535, 65535), api.ErrShort)
}

func TestP3Long(t *testing.T) {
	data := strings.Repeat("x", api.MaxMessage-dataAt)
	wantData(t, "P3: MaxMessage bytes", 999, data, data)
	wantError(t, "P3: good, but one more than MaxMessage", head(0, 1, 0, 0)+record("\x00", 999, data+"x"), api.ErrLong)
	wantError(t, "P3: bytes behind, MaxMessage in all", strings.Repeat("\x00", api.MaxMessage), api.ErrRest)
	wantError(t, "P1: ErrLong comes ahead of all", strings.Repeat("\xff", api.MaxMessage+1), api.ErrLong)
	wantError(t, "P1: ErrLong at far too many bytes", strings.Repeat("\x00", 1<<20), api.ErrLong)
}

func TestP3EveryPrefixIsShort(t *testing.T) {
	b := rich()
	for n := 0; n < len(b); n++ {
		wantError(t, "P3: cut short", b[:n], api.ErrShort)
	}
	wantError(t, "P3: one byte more", b+"\x00", api.ErrRest)
}

func TestP3FirstFaultIsTold(t *testing.T) {
	badName, badData := question("\x40"), record("\x00", api.TypeA, "abc")
	opt := record("\x00", api.TypeOPT, "")
	for _, c := range []struct {
		what, b string
		want    api.Errno
	}{
		{"no name, then an end", head(2, 0, 0, 0) + "\x80", api.ErrName},
		{"no name, then bad data", head(1, 1, 0, 0) + badName + badData, api.ErrName},
		{"bad data, then no name", head(0, 2, 0, 0) + badData + record("\x40", 1, "abcd"), api.ErrData},
		{"bad data, then an end", head(0, 2, 0, 0) + badData, api.ErrData},
		{"bad data, then bytes behind", head(0, 1, 0, 0) + badData + "x", api.ErrData},
		{"OPT among the answers, then bad data", head(0, 2, 0, 0) + opt + badData, api.ErrOpt},
		{"OPT among the answers, then an end", head(0, 2, 0, 0) + opt, api.ErrOpt},
		{"bad data, then OPT among the answers", head(0, 2, 0, 0) + badData + opt, api.ErrData},
		{"two OPT, then bytes behind", head(0, 0, 0, 2) + opt + opt + "x", api.ErrOpt},
		{"data of A that are too few and not all there", head(0, 1, 0, 0) + record("\x00", 1, "abc")[:13], api.ErrShort},
		{"data of CNAME that are no name, and not all there", head(0, 1, 0, 0) + record("\x00", 5, "\x40xx")[:13], api.ErrShort},
		{"OPT among the answers with bad data that are not all there", head(0, 1, 0, 0) + record("\x00", 41, "\x00\x00\x00")[:13], api.ErrShort},
		{"a name that is none, at the very end", head(1, 0, 0, 0) + "\xbf", api.ErrName},
	} {
		wantError(t, "P3: "+c.what, c.b, c.want)
	}
}

func TestP3Opt(t *testing.T) {
	opt, other := record("\x00", api.TypeOPT, ""), record("\x00", api.TypeA, "abcd")
	for _, c := range []struct {
		what, b string
		want    api.Errno
	}{
		{"alone", head(0, 0, 0, 1) + opt, api.OK},
		{"ahead of another record", head(0, 0, 0, 2) + opt + other, api.OK},
		{"behind another record", head(0, 1, 1, 2) + other + other + other + opt, api.OK},
		{"the root by a pointer", head(0, 0, 0, 1) + record(pointer(0), api.TypeOPT, ""), api.OK},
		{"not the root by a pointer", head(0, 0, 0, 1) + record(pointer(1), api.TypeOPT, ""), api.ErrOpt},
		{"among the answers", head(0, 1, 0, 0) + opt, api.ErrOpt},
		{"among the authority", head(0, 0, 1, 0) + opt, api.ErrOpt},
		{"among the answers, and the extra", head(0, 1, 0, 1) + opt + opt, api.ErrOpt},
		{"two", head(0, 0, 0, 2) + opt + opt, api.ErrOpt},
		{"two, not side by side", head(0, 0, 0, 3) + opt + other + opt, api.ErrOpt},
		{"three", head(0, 0, 0, 3) + opt + opt + opt, api.ErrOpt},
		{"not the root", head(0, 0, 0, 1) + record(name("a"), api.TypeOPT, ""), api.ErrOpt},
		{"not the root, bad data", head(0, 0, 0, 1) + record(name("a"), api.TypeOPT, "x"), api.ErrData},
		{"among the answers, bad data", head(0, 1, 0, 0) + record("\x00", api.TypeOPT, "x"), api.ErrData},
		{"the second with bad data", head(0, 0, 0, 2) + opt + record("\x00", api.TypeOPT, "x"), api.ErrData},
		{"a question of type 41", head(2, 0, 0, 0) + name("a") + word(41) + word(1) + "\x00" + word(41) + word(1), api.OK},
	} {
		wantError(t, "P3: OPT "+c.what, c.b, c.want)
	}
}
