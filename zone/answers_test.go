package zone_test

import (
	"fmt"
	"slices"
	"strings"
	"testing"

	"zone/api"
	"zone/zone"
)

// village: news of four nodes that are up, with what a node can have.
func village() []api.Event {
	return []api.Event{
		{Kind: api.Alive, Node: "n2", Inc: 5, Addr: addr6, Port: 1, Text: "t", Alias: "www"},
		{Kind: api.Alive, Node: "n1", Inc: 3, Addr: addr4, Port: 80, Text: "hi", Alias: "www"},
		{Kind: api.Alive, Node: "n3", Inc: 0, Addr: addr4, Port: 65535, Alias: "n1"},
		{Kind: api.Alive, Node: "ns", Inc: 1, Addr: "\x01\x02\x03\x04", Port: 53, Alias: "six"},
		{Kind: api.Alive, Node: "six", Inc: 1, Addr: addr6},
		gone("six", 7), gone("old", 6),
	}
}

// wantFound: a question about the village is told Fine, and answered so.
func wantFound(t *testing.T, name string, kind int, answers ...api.Record) {
	t.Helper()
	m := wanting(name, kind)
	want := api.Message{ID: 7, Flags: 0x8500, Questions: m.Questions, Answers: answers}
	if !slices.ContainsFunc(answers, func(r api.Record) bool { return kind == 255 || r.Type == kind }) {
		want.Authority = start(7)[:1]
	}
	if slices.ContainsFunc(answers, func(r api.Record) bool { return r.Type == 33 }) {
		want.Extra = []api.Record{own(node("n1"), 1, addr4), own(node("n2"), 28, addr6), own(node("n3"), 1, addr4), own(node("ns"), 1, "\x01\x02\x03\x04")}
	}
	wantReply(t, "P16", village(), m, want)
	want.Extra = append(want.Extra, opt(0))
	wantReply(t, "P16, OPT", village(), with(m, 512, 0), want)
}

// wantNoName: a question about these news is told NoName, whatever its type.
func wantNoName(t *testing.T, l []api.Event, serial int, name string) {
	t.Helper()
	for _, kind := range []int{0, 1, 2, 5, 6, 16, 28, 33, 41, 255, 65535} {
		m := wanting(name, kind)
		want := api.Message{ID: 7, Flags: 0x8503, Questions: m.Questions, Authority: start(serial)[:1]}
		wantReply(t, "P16: NoName", l, m, want)
		want.Extra = []api.Record{opt(0)}
		wantReply(t, "P16: NoName, OPT", l, with(m, 512, 0), want)
	}
}

func TestP16Hosts(t *testing.T) {
	n1, t1 := own(node("n1"), 1, addr4), own(node("n1"), 16, "\x02hi")
	n2, t2 := own(node("n2"), 28, addr6), own(node("n2"), 16, "\x01t")
	n3 := own(node("n3"), 1, addr4)
	wantFound(t, node("n1"), 1, n1)
	wantFound(t, node("n1"), 16, t1)
	wantFound(t, node("n1"), 255, n1, t1)
	wantFound(t, node("n2"), 28, n2)
	wantFound(t, node("n2"), 16, t2)
	wantFound(t, node("n2"), 255, n2, t2)
	wantFound(t, node("n3"), 1, n3)
	wantFound(t, node("n3"), 255, n3)
	wantFound(t, node("ns"), 1, own(node("ns"), 1, "\x01\x02\x03\x04"))
	for _, kind := range []int{0, 2, 5, 6, 12, 28, 33, 41, 254, 256, 257, 511, 65535} {
		wantFound(t, node("n1"), kind)
	}
	for _, kind := range []int{1, 2, 5, 6, 33} {
		wantFound(t, node("n2"), kind)
	}
	wantFound(t, node("n3"), 16)
}

func TestP16Aliases(t *testing.T) {
	www, six := own(node("www"), 5, node("n1")), own(node("six"), 5, node("ns"))
	wantFound(t, node("www"), 1, www, own(node("n1"), 1, addr4))
	wantFound(t, node("www"), 16, www, own(node("n1"), 16, "\x02hi"))
	wantFound(t, node("www"), 5, www)
	wantFound(t, node("www"), 255, www)
	for _, kind := range []int{0, 2, 6, 28, 33, 41, 65535} {
		wantFound(t, node("www"), kind, www)
	}
	wantFound(t, node("six"), 1, six, own(node("ns"), 1, "\x01\x02\x03\x04"))
	wantFound(t, node("six"), 28, six)
}

func TestP16Origin(t *testing.T) {
	l := start(7)
	wantFound(t, api.Origin, 6, l[0])
	wantFound(t, api.Origin, 2, l[1])
	wantFound(t, api.Origin, 255, l[0], l[1])
	for _, kind := range []int{0, 1, 5, 16, 28, 33, 41, 65535} {
		wantFound(t, api.Origin, kind)
	}
	// The NS has nothing beside it, though its server is a node.
	wantReply(t, "P16: no news", nil, wanting(api.Origin, 255), api.Message{ID: 7, Flags: 0x8500, Questions: wanting(api.Origin, 255).Questions, Answers: start(0)})
}

func TestP16Services(t *testing.T) {
	all := []api.Record{service(80, "n1"), service(1, "n2"), service(65535, "n3"), service(53, "ns")}
	wantFound(t, api.Service, 33, all...)
	wantFound(t, api.Service, 255, all...)
	for _, kind := range []int{0, 1, 2, 5, 6, 16, 28, 41, 65535} {
		wantFound(t, api.Service, kind)
	}
	// No record has this name, but some have one below it.
	for _, kind := range []int{0, 1, 2, 5, 6, 16, 28, 33, 41, 255, 65535} {
		wantFound(t, name("_tcp", "svc", "mesh"), kind)
		wantFound(t, name("_TCP", "svc", "mesh"), kind)
	}
}

func TestP16NoName(t *testing.T) {
	for _, n := range []string{
		node("n"), node("n4"), node("n11"), node("old"), node("admin"), node("_node"), name("_node", "_tcp", "x", "svc", "mesh"),
		name("x", "n1", "svc", "mesh"), name("n1", "n1", "svc", "mesh"), name("x", "www", "svc", "mesh"), name("x", "_node", "_tcp", "svc", "mesh"), name("x", "_tcp", "svc", "mesh"),
		name("_node\x04_tcp", "svc", "mesh"), node("*"), node("n1\x03svc"), node("\x02n1"), node("n1\x00"), name("svc", "svc", "mesh"), name("svc", "mesh", "svc", "mesh"),
	} {
		wantNoName(t, village(), 7, n)
		wantNoName(t, village(), 7, strings.ToUpper(n))
	}
	// Where no node is up there are no services, and nothing above them.
	for _, n := range []string{api.Service, name("_tcp", "svc", "mesh"), node("n1"), node("www"), api.Server, api.Admin} {
		wantNoName(t, nil, 0, n)
		wantNoName(t, []api.Event{host("n1", 4, 80), gone("n1", 4), host("N1", 9, 80)}, 4, n)
	}
}

// TestP16Letters: of the bytes only A to Z are taken as others; the names of answers have small letters.
func TestP16Letters(t *testing.T) {
	letters := "abcdefghijklmnopqrstuvwxyz0123456789-"
	var l []api.Event
	for _, c := range letters {
		l = append(l, host(string(c), 1, 80), host("n"+string(c), 1, 80))
	}
	for c := range 256 {
		small := c
		if 65 <= c && c <= 90 {
			small = c + 32
		}
		for _, ahead := range []string{"", "n", "N"} {
			m := wanting(node(ahead+string([]byte{byte(c)})), 1)
			want := api.Message{ID: 7, Flags: 0x8503, Questions: m.Questions, Authority: start(1)[:1]}
			if s := string([]byte{byte(small)}); strings.Contains(letters, s) {
				want.Flags, want.Authority = 0x8500, nil
				want.Answers = []api.Record{own(node(strings.ToLower(ahead)+s), 1, addr4)}
			}
			wantReply(t, "P16: letters", l, m, want)
		}
	}
	m := wanting(name("_NoDe", "_tCP", "Svc", "meSH"), 33)
	wantReply(t, "P16: letters of the service", []api.Event{host("a", 1, 80)}, m,
		api.Message{ID: 7, Flags: 0x8500, Questions: m.Questions, Answers: []api.Record{service(80, "a")}, Extra: []api.Record{own(node("a"), 1, addr4)}})
	m = wanting(node("WwW"), 1)
	wantReply(t, "P16: letters of an alias", web(), m,
		api.Message{ID: 7, Flags: 0x8500, Questions: m.Questions, Answers: []api.Record{own(node("www"), 5, node("n1")), own(node("n1"), 1, addr4)}})
}

// wantFill: over this limit the services of the news are answered with as
// many addresses as fit; they are, if they fit, all answered, else none.
func wantFill(t *testing.T, l []api.Event, m api.Message, stream bool, limit int) {
	t.Helper()
	q := written(t, m)
	b := zone.Respond(l, q, stream)
	x, e := zone.Parse(b)
	if e != api.OK || len(b) > limit {
		t.Fatalf("P17: %d news, the limit %d: %d bytes, %d", len(l), limit, len(b), e)
	}
	whole := api.Message{ID: 7, Flags: 0x8500, Questions: m.Questions}
	var ends []api.Record
	if len(m.Extra) > 0 {
		ends = []api.Record{opt(0)}
	}
	var hosts []api.Record
	for _, r := range zone.Records(l) {
		switch r.Type {
		case 33:
			whole.Answers = append(whole.Answers, r)
		case 1, 28:
			hosts = append(hosts, r)
		}
	}
	size := func(count int) int {
		whole.Extra = append(slices.Clone(hosts[:count]), ends...)
		s, e := zone.Serialize(whole)
		if e != api.OK {
			return 1 << 20
		}
		return len(s)
	}
	if size(0) > limit {
		want := api.Message{ID: 7, Flags: 0x8700, Questions: m.Questions, Extra: ends}
		if !like(x, want) {
			t.Fatalf("P17: %d news, the limit %d: %s, want %s", len(l), limit, brief(x), brief(want))
		}
		return
	}
	count := len(x.Extra) - len(ends)
	if count < 0 || count > len(hosts) || size(count) != len(b) || !like(x, whole) {
		t.Fatalf("P17: %d news, the limit %d: %d extra records: %s", len(l), limit, count, brief(x))
	}
	if count < len(hosts) && size(count+1) <= limit {
		t.Fatalf("P17: %d news, the limit %d: %d bytes; with one more host there would be %d", len(l), limit, len(b), size(count+1))
	}
}

// crowd: news of so many nodes that are up; some have a text, some an address of 16 bytes.
func crowd(count int) []api.Event {
	var l []api.Event
	for k := range count {
		e := host(fmt.Sprintf("%x", k), 1, k%65536)
		if k%3 == 0 {
			e.Addr = addr6
		}
		if k%5 == 0 {
			e.Text = "text"
		}
		l = append(l, e)
	}
	return l
}

// TestP17Classes: the limit is what the OPT's class says, from 512 to 4096.
func TestP17Classes(t *testing.T) {
	few, some, many := crowd(10), crowd(20), crowd(100)
	m := wanting(api.Service, 33)
	for class := 0; class < 4300; class += 7 {
		limit := max(512, min(class, 4096))
		wantFill(t, few, with(m, class, 0), false, limit)
		wantFill(t, some, with(m, class, 0), false, limit)
		wantFill(t, many, with(m, class, 0), false, limit)
	}
	for _, class := range []int{0, 1, 511, 512, 513, 4095, 4096, 4097, 8192, 65535} {
		for count := range 110 {
			wantFill(t, crowd(count+1), with(m, class, 0), false, max(512, min(class, 4096)))
		}
	}
	for count := range 110 {
		wantFill(t, crowd(count+1), m, false, 512)
		wantFill(t, crowd(count+1), m, true, 65535)
		wantFill(t, crowd(count+1), with(m, 512, 0), true, 65535)
	}
}

// TestP17Edges: each size that an answer can have, and one byte less and more.
func TestP17Edges(t *testing.T) {
	for _, kind := range []int{33, 255} {
		l := crowd(24)
		m := wanting(api.Service, kind)
		q := written(t, with(m, 4096, 0))
		all := zone.Respond(l, q, false)
		for class := 512; class <= len(all)+1; class++ {
			wantFill(t, l, with(m, class, 0), false, class)
		}
		if x, e := zone.Parse(zone.Respond(l, written(t, with(m, len(all), 0)), false)); e != api.OK || len(x.Extra) != 25 {
			t.Errorf("P17: %d extra records in just so many bytes as they take, %d", len(x.Extra), e)
		}
	}
}

// sized: nodes whose services make an answer of just so many bytes, without an OPT.
func sized(t *testing.T, size int) []api.Event {
	t.Helper()
	// A head, the question, and for each node 29 bytes and its label.
	left := size - 12 - 25
	count := left / 40
	left -= 29 * count
	var l []api.Event
	for k := range count {
		width := left / (count - k)
		left -= width
		l = append(l, host(fmt.Sprintf("%0*d", width, k), 1, 80))
	}
	x := wanting(api.Service, 33)
	for _, r := range zone.Records(l) {
		if r.Type == 33 {
			x.Answers = append(x.Answers, r)
		}
	}
	if b, _, e := modelWrite(x); len(b) != size && (size <= 65535 || e != api.ErrLong) {
		t.Fatalf("an answer of %d bytes, want %d", len(b), size)
	}
	return l
}

// TestP17Sizes: an answer that fits to the byte, and one that is a byte too long.
func TestP17Sizes(t *testing.T) {
	m := wanting(api.Service, 33)
	for _, limit := range []int{512, 4096, 65535} {
		stream := limit == 65535
		class := min(limit, 4096)
		for _, more := range []int{-40, -30, -20, -12, -11, -10, -1, 0, 1, 2, 10} {
			size := limit + more
			l := sized(t, size)
			b := zone.Respond(l, written(t, with(m, class, 0)), stream)
			if fits := size+11 <= limit; len(b) < 12 || b[6:8] == "\x00\x00" == fits {
				t.Errorf("P17: services of %d bytes and an OPT within %d: %.20x", size, limit, b)
			}
			wantFill(t, l, with(m, class, 0), stream, limit)
			if limit != 4096 {
				b := zone.Respond(l, written(t, m), stream)
				if fits := size <= limit; len(b) < 12 || b[6:8] == "\x00\x00" == fits {
					t.Errorf("P17: services of %d bytes within %d: %.20x", size, limit, b)
				}
				wantFill(t, l, m, stream, limit)
			}
		}
	}
}

// TestP17Stream: over a stream, with more services and hosts than there is room for.
func TestP17Stream(t *testing.T) {
	m := wanting(api.Service, 33)
	for _, count := range []int{1000, 1300, 1400, 1500, 2000, 2054, 2055, 2056, 2057, 2100, 3000} {
		l := crowd(count)
		wantFill(t, l, m, true, 65535)
		wantFill(t, l, with(m, 512, 0), true, 65535)
		wantFill(t, l, with(m, 4096, 0), false, 4096)
	}
}

// TestP17Cut: FlagCut tells of answers that are left out, not of extra records.
func TestP17Cut(t *testing.T) {
	m := wanting(api.Service, 33)
	seen := [3]int{}
	for count := range 40 {
		x, e := zone.Parse(zone.Respond(crowd(count+1), written(t, m), false))
		if e != api.OK {
			t.Fatalf("P18: the answer cannot be read: %d", e)
		}
		switch {
		case len(x.Answers) == 0:
			seen[2]++
		case len(x.Extra) < len(x.Answers):
			seen[1]++
		default:
			seen[0]++
		}
		if cut := x.Flags&0x0200 != 0; cut != (len(x.Answers) == 0) {
			t.Errorf("P17: %d answers, %d extra records, the flags %x", len(x.Answers), len(x.Extra), x.Flags)
		}
	}
	if seen[0] < 3 || seen[1] < 3 || seen[2] < 3 {
		t.Errorf("whole, without some of the extra records, cut: %v", seen)
	}
}

// TestP1RespondEnds: so many nodes that no message can hold them.
func TestP1RespondEnds(t *testing.T) {
	l := crowd(70000)
	for _, kind := range []int{33, 255} {
		m := with(wanting(api.Service, kind), 65535, 0)
		want := api.Message{ID: 7, Flags: 0x8700, Questions: m.Questions, Extra: []api.Record{opt(0)}}
		for _, stream := range []bool{false, true} {
			if b := zone.Respond(l, written(t, m), stream); b != written(t, want) {
				t.Errorf("P17: 70000 nodes: %.200x, want %x", b, written(t, want))
			}
		}
	}
	if b := zone.Respond(l, written(t, wanting(node("10000"), 28)), false); len(b) < 12 || b[3] != 0 || b[7] != 0 {
		t.Errorf("P16: one of 70000 nodes: %x", b)
	}
}
