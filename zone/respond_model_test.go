package zone_test

import (
	"fmt"
	"math/rand"
	"slices"
	"testing"

	"zone/api"
	"zone/zone"
)

// modelRespond is Respond once more, from the document's words.
func modelRespond(l []api.Event, q string, stream bool) string {
	if len(q) < 12 || len(q) > 65535 || q[2] >= 128 {
		return ""
	}
	m, e := model(q)
	if e != api.OK {
		return q[:2] + string([]byte{128 + q[2]&0x79, 1}) + "\x00\x00\x00\x00\x00\x00\x00\x00"
	}
	x := api.Message{ID: m.ID, Flags: 0x8000 + m.Flags&0x7900}
	limit, version := 512, 0
	var opt []api.Record
	for _, r := range m.Extra {
		if r.Type == 41 {
			opt = []api.Record{{Name: "\x00", Type: 41, Class: 4096}}
			limit, version = max(512, min(r.Class, 4096)), r.TTL>>16&255
		}
	}
	if stream {
		limit = 65535
	}
	if len(m.Questions) == 1 {
		x.Questions = m.Questions
	}
	var wanted [3][][]api.Record
	switch {
	case len(m.Questions) != 1:
		x.Flags += 1
	case m.Flags>>11&15 != 0:
		x.Flags += 4
	case version != 0:
		opt[0].TTL = 0x01000000
	case m.Questions[0].Class != 1 || !modelBelow(m.Questions[0].Name, name("svc", "mesh")):
		x.Flags += 5
	default:
		tells := 0
		tells, wanted = modelWanted(modelRecords(l), modelLabels(m.Questions[0].Name), m.Questions[0].Type)
		x.Flags += 0x0400 + tells
	}
	return modelFit(x, wanted, opt, limit)
}

// modelFit: the answer with as many of the wanted sets as fit, tried one by one.
func modelFit(x api.Message, wanted [3][][]api.Record, opt []api.Record, limit int) string {
	fits := func(x api.Message) (string, bool) {
		x.Extra = append(slices.Clone(x.Extra), opt...)
		b, _, e := modelWrite(x)
		return b, e == api.OK && len(b) <= limit
	}
	for part, sets := range wanted {
		for _, set := range sets {
			more := x
			list := []*[]api.Record{&more.Answers, &more.Authority, &more.Extra}[part]
			*list = append(slices.Clone(*list), set...)
			if _, ok := fits(more); !ok {
				if part < 2 {
					x.Flags += 0x0200
				}
				b, _ := fits(x)
				return b
			}
			x = more
		}
	}
	b, _ := fits(x)
	return b
}

// modelLabels: the labels of a name, with small letters.
func modelLabels(name string) []string {
	l := []string{}
	for name[0] != 0 {
		label := []byte(name[1 : 1+name[0]])
		for i, c := range label {
			if 65 <= c && c <= 90 {
				label[i] = c + 32
			}
		}
		l = append(l, string(label))
		name = name[1+name[0]:]
	}
	return l
}

// modelBelow: the name is the other or below it.
func modelBelow(name, other string) bool {
	a, b := modelLabels(name), modelLabels(other)
	return len(a) >= len(b) && slices.Equal(a[len(a)-len(b):], b)
}

// modelWanted: what is told, and the sets that are wanted as answers, authority and extra.
func modelWanted(records []api.Record, labels []string, t int) (int, [3][][]api.Record) {
	n := name(labels...)
	type key struct {
		name string
		kind int
	}
	sets := map[key][]api.Record{}
	var order []key
	found := false
	for _, r := range records {
		k := key{r.Name, r.Type}
		if sets[k] == nil {
			order = append(order, k)
		}
		sets[k] = append(sets[k], r)
		found = found || modelBelow(r.Name, n)
	}
	soa := [][]api.Record{records[:1]}
	if !found {
		return 3, [3][][]api.Record{nil, soa, nil}
	}
	var answers, authority, extra [][]api.Record
	want := func(k key) {
		if sets[k] != nil {
			answers = append(answers, sets[k])
		}
	}
	alias := sets[key{n, 5}]
	switch {
	case t == 255:
		for _, k := range order {
			if k.name == n {
				want(k)
			}
		}
	case alias != nil && t != 5:
		want(key{n, 5})
		want(key{alias[0].Data, t})
	default:
		want(key{n, t})
	}
	if !slices.ContainsFunc(answers, func(l []api.Record) bool { return t == 255 || l[0].Type == t }) {
		authority = soa
	}
	for _, l := range answers {
		for _, r := range l {
			for _, kind := range []int{1, 28} {
				if r.Type == 33 && sets[key{r.Data[6:], kind}] != nil {
					extra = append(extra, sets[key{r.Data[6:], kind}])
				}
			}
		}
	}
	return 0, [3][][]api.Record{answers, authority, extra}
}

// wantResponse: Respond answers as modelRespond does; the answer is given.
func wantResponse(t *testing.T, what string, l []api.Event, q string, stream bool) string {
	t.Helper()
	b, want := zone.Respond(l, q, stream), modelRespond(l, q, stream)
	if b != want {
		t.Fatalf("%s: Respond(%.2000s, %.1000x, %v) = %.4000x, want %.4000x", what, fmt.Sprintf("%+v", l), q, stream, b, want)
	}
	return b
}

// anyQuestion: a question about the zone, or one nearly about it.
func anyQuestion(r *rand.Rand) api.Question {
	labels := []string{"a", "b", "c", "ab", "a-", "1", "-", "n1", "n10", "n2", "www", "x", "0", "ns", "_tcp", "_node"}
	names := []string{api.Service, api.Service, api.Service, api.Origin, "\x04_tcp" + api.Origin, api.Server, "\x04mesh\x00", "\x00", "\x01x" + api.Service}
	n := names[r.Intn(len(names))]
	if r.Intn(2) > 0 {
		n = node(labels[r.Intn(len(labels))])
	}
	if r.Intn(20) == 0 {
		n = anyWhole(r)
	}
	if b := []byte(n); r.Intn(3) == 0 {
		for i, c := range b {
			if 'a' <= c && c <= 'z' && r.Intn(2) == 0 {
				b[i] = c - 32
			}
		}
		n = string(b)
	}
	q := api.Question{Name: n, Type: []int{1, 2, 5, 6, 12, 16, 28, 33, 41, 255, 0, 65535}[r.Intn(12)], Class: 1}
	if n == api.Service && r.Intn(2) == 0 {
		q.Type = 33
	}
	if r.Intn(20) == 0 {
		q.Class = r.Intn(65536)
	}
	return q
}

// anyAsk: a message that asks for something in the zone, or nearly so.
func anyAsk(r *rand.Rand) api.Message {
	m := api.Message{ID: r.Intn(65536), Flags: r.Intn(65536) & 0x07ff, Questions: []api.Question{anyQuestion(r)}}
	switch r.Intn(20) {
	case 0:
		m.Flags = r.Intn(65536)
	case 1:
		m.Questions = append(m.Questions, anyQuestion(r))
	case 2:
		m.Questions = nil
	}
	if r.Intn(2) == 0 {
		life := r.Intn(1<<32) &^ 0xff0000
		if r.Intn(10) == 0 {
			life += r.Intn(256) << 16
		}
		m.Extra = append(m.Extra, api.Record{Name: "\x00", Type: 41, Class: []int{0, 511, 512, 513 + r.Intn(1000), 4096, 65535}[r.Intn(6)], TTL: life})
	}
	for _, list := range []*[]api.Record{&m.Answers, &m.Authority, &m.Extra} {
		if x := anyRecord(r); r.Intn(10) == 0 && x.Type != 41 {
			*list = append(*list, x)
		}
	}
	return m
}

// TestP18Random: many questions about many zones; and the news in another order or told twice.
func TestP18Random(t *testing.T) {
	r := rand.New(rand.NewSource(8))
	told, cut := [16]int{}, 0
	for range 10000 {
		var l []api.Event
		for range r.Intn(30) {
			l = append(l, anyNews(r))
		}
		for k := range r.Intn(2) * r.Intn(60) {
			l = append(l, host(fmt.Sprint("more-", k), 1, k))
		}
		q, e := zone.Serialize(anyAsk(r))
		if e != api.OK {
			continue
		}
		stream := r.Intn(4) == 0
		b := wantResponse(t, "P14 to P17", l, q, stream)
		if b != "" {
			told[b[3]&15]++
			cut += int(b[2] >> 1 & 1)
		}
		twice := append(slices.Clone(l), l...)
		r.Shuffle(len(twice), func(i, j int) { twice[i], twice[j] = twice[j], twice[i] })
		if again := zone.Respond(twice, q, stream); again != b {
			t.Fatalf("P18: of the same news twice, in another order, Respond(%+v, %x) = %x, was %x", l, q, again, b)
		}
	}
	for _, tells := range []int{0, 1, 3, 4, 5} {
		if told[tells] < 100 {
			t.Errorf("%d was told %d times alone: %v", tells, told[tells], told)
		}
	}
	if cut < 100 {
		t.Errorf("%d answers alone were cut", cut)
	}
}

// TestP18AnyBytes: bytes that are no question, and some that nearly are.
func TestP18AnyBytes(t *testing.T) {
	r := rand.New(rand.NewSource(9))
	l := []api.Event{alive("n1", 1), host("n2", 1, 80)}
	for range 20000 {
		b := []byte(anyMessage(r))
		if q, e := zone.Serialize(anyAsk(r)); e == api.OK && r.Intn(2) == 0 {
			b = []byte(q)
			b[r.Intn(len(b))] = byte(r.Intn(256))
			b = b[:len(b)-r.Intn(2)*r.Intn(len(b))]
		}
		if len(b) > 2 {
			b[2] &= byte(127 + r.Intn(2)*128)
		}
		wantResponse(t, "P18: any bytes", l, string(b), r.Intn(2) == 0)
	}
}
