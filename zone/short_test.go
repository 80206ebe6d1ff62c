package zone_test

import (
	"fmt"
	"strings"
	"testing"

	"zone/api"
	"zone/zone"
)

// wantNames: the names of questions are written so, one behind the other.
func wantNames(t *testing.T, what string, names, written []string) {
	t.Helper()
	b := head(len(names), 0, 0, 0)
	for _, w := range written {
		b += question(w)
	}
	wantBytes(t, "P8: "+what, ask(names...), b)
}

func TestP8Names(t *testing.T) {
	a, ba, cba, aa := name("a"), name("b", "a"), name("c", "b", "a"), name("a", "a")
	for _, c := range []struct {
		what           string
		names, written []string
	}{
		{"the root", []string{"\x00", "\x00"}, []string{"\x00", "\x00"}},
		{"the same", []string{ba, ba, ba}, []string{ba, pointer(12), pointer(12)}},
		{"a tail", []string{cba, ba, a}, []string{cba, pointer(14), pointer(16)}},
		{"the longest tail", []string{a, ba, cba, name("d", "c", "b", "a")}, []string{a, "\x01b" + pointer(12), "\x01c" + pointer(19), "\x01d" + pointer(27)}},
		{"more ahead of a tail that is known", []string{cba, name("x", "y", "b", "a"), name("z", "y", "b", "a")}, []string{cba, "\x01x\x01y" + pointer(14), "\x01z" + pointer(25)}},
		{"no tail of itself", []string{name("a", "a", "a")}, []string{name("a", "a", "a")}},
		{"labels that are alike", []string{aa, a, aa, name("a", "a", "a")}, []string{aa, pointer(14), pointer(12), "\x01a" + pointer(12)}},
		{"great and small letters", []string{name("a", "B"), name("A", "B"), name("a", "b"), name("B"), name("A", "b")},
			[]string{name("a", "B"), "\x01A" + pointer(14), name("a", "b"), pointer(14), "\x01A" + pointer(31)}},
		{"no tail, but a front", []string{ba, name("b"), name("b", "c")}, []string{ba, name("b"), name("b", "c")}},
		{"not within a label", []string{name("x\x01a"), a}, []string{name("x\x01a"), a}},
		{"not from within a label", []string{a, name("x\x01a")}, []string{a, name("x\x01a")}},
		{"labels of other lengths", []string{name("ab", "c"), name("a", "b", "c"), name("b", "c")}, []string{name("ab", "c"), "\x01a\x01b" + pointer(15), pointer(24)}},
		{"the root behind a name", []string{a, "\x00", a}, []string{a, "\x00", pointer(12)}},
		{"bytes like a pointer", []string{name("\xc0\x0c"), name("\x00", "\xc0\x0c")}, []string{name("\xc0\x0c"), "\x01\x00" + pointer(12)}},
	} {
		wantNames(t, c.what, c.names, c.written)
	}
	longest := strings.Repeat("\x01a", 127) + "\x00"
	wantNames(t, "the longest name", []string{longest, longest, longest[2:]}, []string{longest, pointer(12), pointer(14)})
	wantNames(t, "one label more each", []string{a, aa, name("a", "a", "a")}, []string{a, "\x01a" + pointer(12), "\x01a" + pointer(19)})
}

func TestP8High(t *testing.T) {
	a := name("a")
	b := head(0, 3, 0, 0) + record("\x00", 999, strings.Repeat("f", 0x1234-23)) + record(a, 999, "")
	wantBytes(t, "P8: a pointer of two bytes", tell(filler(0x1234-12), rec(a, 999, ""), rec(a, 999, "")), b+record("\xd2\x34", 999, ""))
}

func TestP8Data(t *testing.T) {
	a, ba, z20 := name("a"), name("b", "a"), strings.Repeat("z", 20)
	one := head(0, 1, 0, 0)
	two := head(0, 2, 0, 0)
	for _, kind := range []int{2, 5, 12} {
		what := fmt.Sprint("P8: type ", kind)
		wantBytes(t, what+" tells its own name", tell(rec(ba, kind, ba)), one+record(ba, kind, pointer(12)))
		wantBytes(t, what+" tells a name below", tell(rec(a, kind, ba)), one+record(a, kind, "\x01b"+pointer(12)))
		wantBytes(t, what+" makes known", tell(rec("\x00", kind, ba), rec(a, kind, ba)),
			two+record("\x00", kind, ba)+record(pointer(25), kind, pointer(23)))
		wantBytes(t, what+" tells the root", tell(rec(a, kind, "\x00")), one+record(a, kind, "\x00"))
	}
	wantBytes(t, "P8: SOA", tell(rec(a, 6, ba+name("c", "b", "a")+z20), rec(name("c", "b", "a"), 1, "abcd")),
		two+record(a, 6, "\x01b"+pointer(12)+"\x01c"+pointer(25)+z20)+record(pointer(29), 1, "abcd"))
	wantBytes(t, "P8: SOA with names that are the same", tell(rec("\x00", 6, a+a+z20)), one+record("\x00", 6, a+pointer(23)+z20))
	wantBytes(t, "P8: SOA with roots", tell(rec("\x00", 6, "\x00\x00"+z20)), one+record("\x00", 6, "\x00\x00"+z20))
	named := strings.Repeat("\x01a\x00\x00", 5)
	wantBytes(t, "P8: what is behind the names of SOA", tell(rec(a, 6, a+a+named), rec(ba, 999, "")),
		two+record(a, 6, pointer(12)+pointer(12)+named)+record("\x01b"+pointer(12), 999, ""))
}

// TestP8DataAsItIs: what looks like a name in other data is neither short nor known.
func TestP8DataAsItIs(t *testing.T) {
	a, ba := name("a"), name("b", "a")
	for _, c := range []struct {
		kind int
		data string
	}{
		{33, "123456" + ba}, {33, "\x01a\x00\x01a\x00" + ba}, {16, "\x01b\x01a\x00"}, {1, "\x01b\x01a"}, {28, ba + "0123456789" + "\x00"}, {999, ba}, {15, "\x00\x01" + ba}, {17, ba + a}, {39, ba},
	} {
		what := fmt.Sprint("P8: type ", c.kind)
		wantBytes(t, what+" is not short", tell(rec(ba, c.kind, c.data)), head(0, 1, 0, 0)+record(ba, c.kind, c.data))
		wantBytes(t, what+" is not known", tell(rec("\x00", c.kind, c.data), rec(ba, 999, "")),
			head(0, 2, 0, 0)+record("\x00", c.kind, c.data)+record(ba, 999, ""))
	}
	m := api.Message{ID: 7, Extra: []api.Record{rec("\x00", 41, "\x00\x01\x00\x05"+ba), rec(ba, 999, "")}}
	wantBytes(t, "P8: OPT is not known", m, head(0, 0, 0, 2)+record("\x00", 41, "\x00\x01\x00\x05"+ba)+record(ba, 999, ""))
}

func TestP8ThroughTheLists(t *testing.T) {
	a := name("a")
	m := ask(a)
	m.Answers, m.Authority, m.Extra = []api.Record{rec(a, 5, a)}, []api.Record{rec(a, 2, name("n", "a"))}, []api.Record{rec("\x00", 41, ""), rec(name("n", "a"), 1, "abcd")}
	wantBytes(t, "P8: all lists", m, head(1, 1, 1, 2)+question(a)+record(pointer(12), 5, pointer(12))+record(pointer(12), 2, "\x01n"+pointer(12))+
		record("\x00", 41, "")+record(pointer(12+7+14+12), 1, "abcd"))
}

// TestP8Far: offsets above 16383 do not count, label by label.
func TestP8Far(t *testing.T) {
	a, dcba := name("a"), name("d", "c", "b", "a")
	at := func(offset int, l ...api.Record) (api.Message, string) {
		return tell(append([]api.Record{filler(offset - 12)}, l...)...), head(0, 1+len(l), 0, 0) + record("\x00", 999, strings.Repeat("f", offset-23))
	}
	for _, offset := range []int{16382, 16383} {
		m, b := at(offset, rec(a, 999, ""), rec(a, 999, ""))
		wantBytes(t, fmt.Sprint("P8: a name at ", offset), m, b+record(a, 999, "")+record(pointer(offset), 999, ""))
	}
	for _, offset := range []int{16384, 16385, 32768, 49151} {
		m, b := at(offset, rec(a, 999, ""), rec(a, 999, ""), rec(a, 5, a))
		wantBytes(t, fmt.Sprint("P8: a name at ", offset), m, b+record(a, 999, "")+record(a, 999, "")+record(a, 5, a))
	}
	// The labels d and c are within, b and a are not.
	m, b := at(16381, rec(dcba, 999, ""), rec(dcba, 999, ""), rec(dcba[2:], 999, ""), rec(dcba[4:], 999, ""), rec(dcba[6:], 999, ""), rec(name("x", "d", "c", "b", "a"), 999, ""))
	wantBytes(t, "P8: a name over the edge", m, b+record(dcba, 999, "")+record(pointer(16381), 999, "")+record(pointer(16383), 999, "")+
		record(dcba[4:], 999, "")+record(dcba[6:], 999, "")+record("\x01x"+pointer(16381), 999, ""))
	// In data, too; and a tail from far ahead stays known behind the edge.
	m, b = at(16373, rec("\x00", 5, dcba), rec(dcba, 5, dcba[2:]))
	wantBytes(t, "P8: a name in data behind the edge", m, b+record("\x00", 5, dcba)+record(dcba, 5, dcba[2:]))
	m, b = at(16372, rec("\x00", 5, dcba), rec(dcba, 5, dcba[2:]))
	wantBytes(t, "P8: a name in data at the edge", m, b+record("\x00", 5, dcba)+record(pointer(16383), 5, dcba[2:]))
	m = tell(rec(a, 999, ""), filler(40000), rec(dcba, 5, dcba[2:]), rec(dcba, 5, a))
	wantBytes(t, "P8: a tail from ahead", m, head(0, 4, 0, 0)+record(a, 999, "")+record("\x00", 999, strings.Repeat("f", 40000-11))+
		record("\x01d\x01c\x01b"+pointer(12), 5, "\x01c\x01b"+pointer(12))+record("\x01d\x01c\x01b"+pointer(12), 5, pointer(12)))
}

func TestP2Serialize(t *testing.T) {
	spare := func() ([]api.Question, []api.Record) {
		q := []api.Question{{Name: name("a", "b"), Type: 1, Class: 1}, {Name: name("b")}, {Name: "behind", Type: -5}}
		r := []api.Record{rec(name("a", "b"), 5, name("b")), rec(name("c", "b"), 6, name("b")+name("a", "b")+strings.Repeat("z", 20)), {Name: "behind", Data: "behind"}}
		return q, r
	}
	q, r := spare()
	m := api.Message{Questions: q[:2], Answers: r[:2]}
	_, m.Authority = spare()
	_, m.Extra = spare()
	authority, extra := m.Authority, m.Extra
	m.Authority, m.Extra = m.Authority[:2], m.Extra[:2]
	first, e := zone.Serialize(m)
	if e != api.OK {
		t.Fatalf("P2: Serialize tells %d", e)
	}
	wantQ, wantR := spare()
	if !likeLists(q, wantQ) || !likeLists(r, wantR) || !likeLists(authority, wantR) || !likeLists(extra, wantR) {
		t.Errorf("P2: Serialize wrote into what it was given: %#v, %#v, %#v, %#v", q, r, authority, extra)
	}
	wantBytes(t, "P2: another message between", ask(name("a", "b")), head(1, 0, 0, 0)+question(name("a", "b")))
	if again, e := zone.Serialize(m); e != api.OK || again != first {
		t.Errorf("P2: Serialize was %x, now %x, %d", first, again, e)
	}
}
