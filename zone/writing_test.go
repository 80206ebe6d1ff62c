package zone_test

import (
	"math/rand"
	"strings"
	"testing"

	"zone/api"
	"zone/zone"
)

// modelWrite is Serialize once more, from the document's words; the second
// result is how many bytes the message has with all names whole.
func modelWrite(m api.Message) (string, int, api.Errno) {
	if !modelWell(m) {
		return "", 0, api.ErrMessage
	}
	b := word(m.ID) + word(m.Flags) + word(len(m.Questions)) + word(len(m.Answers)) + word(len(m.Authority)) + word(len(m.Extra))
	whole := len(b)
	known := map[string][]int{}
	for _, q := range m.Questions {
		b += modelShort(known, q.Name, len(b)) + word(q.Type) + word(q.Class)
		whole += len(q.Name) + 4
	}
	for _, l := range [][]api.Record{m.Answers, m.Authority, m.Extra} {
		for _, r := range l {
			b += modelShort(known, r.Name, len(b)) + word(r.Type) + word(r.Class) + long(r.TTL)
			d := ""
			switch r.Type {
			case 2, 5, 12:
				d = modelShort(known, r.Data, len(b)+2)
			case 6:
				_, next, _ := modelName(r.Data, 0)
				_, last, _ := modelName(r.Data, next)
				d = modelShort(known, r.Data[:next], len(b)+2)
				d += modelShort(known, r.Data[next:last], len(b)+2+len(d))
				d += r.Data[last:]
			default:
				d = r.Data
			}
			b += word(len(d)) + d
			whole += len(r.Name) + 10 + len(r.Data)
		}
	}
	if len(b) > 65535 {
		return "", 0, api.ErrLong
	}
	return b, whole, api.OK
}

// modelShort: the name, written short at the offset; known holds all offsets of each tail.
func modelShort(known map[string][]int, name string, at int) string {
	var starts []int
	for i := 0; name[i] != 0; i += 1 + int(name[i]) {
		starts = append(starts, i)
	}
	end, s := len(name)-1, name
	for _, i := range starts {
		least := 1 << 20
		for _, o := range known[name[i:]] {
			if o <= 16383 {
				least = min(least, o)
			}
		}
		if least < 1<<20 {
			end, s = i, name[:i]+pointer(least)
			break
		}
	}
	for _, i := range starts {
		if i < end {
			known[name[i:]] = append(known[name[i:]], at+i)
		}
	}
	return s
}

// modelWell: the message is well made.
func modelWell(m api.Message) (well bool) {
	defer func() {
		if recover() != nil {
			well = false
		}
	}()
	must := func(ok bool) {
		if !ok {
			panic(api.ErrMessage)
		}
	}
	word := func(n int) { must(0 <= n && n < 1<<16) }
	name := func(s string) {
		_, next, pointed := modelName(s, 0)
		must(next == len(s) && !pointed)
	}
	word(m.ID)
	word(m.Flags)
	word(len(m.Questions))
	for _, q := range m.Questions {
		name(q.Name)
		word(q.Type)
		word(q.Class)
	}
	opts := 0
	for k, l := range [][]api.Record{m.Answers, m.Authority, m.Extra} {
		word(len(l))
		for _, r := range l {
			name(r.Name)
			word(r.Type)
			word(r.Class)
			must(0 <= r.TTL && r.TTL < 1<<32)
			word(len(r.Data))
			must(modelData(r.Data, 0, len(r.Data), r.Type) == r.Data)
			if r.Type == 41 {
				opts++
				must(k == 2 && opts == 1 && r.Name == "\x00")
			}
		}
	}
	return true
}

// wantWritten: Serialize answers as modelWrite does, and what it writes is read back and not too long.
func wantWritten(t *testing.T, m api.Message) api.Errno {
	t.Helper()
	b, e := zone.Serialize(m)
	want, whole, wantE := modelWrite(m)
	if e != wantE || b != want {
		t.Fatalf("P6 to P8: Serialize(%s) = %.4000x, %d, want %.4000x, %d", brief(m), b, e, want, wantE)
	}
	if e != api.OK {
		return e
	}
	if len(b) > whole {
		t.Fatalf("P9: Serialize(%s) has %d bytes, with whole names %d", brief(m), len(b), whole)
	}
	if again, e := zone.Parse(b); e != api.OK || !like(again, m) {
		t.Fatalf("P9: Serialize(%s) = %.4000x, which Parse reads as %s, %d", brief(m), b, brief(again), e)
	}
	return e
}

// anyWhole: a name, whole, of few labels, so that many have tails in common.
func anyWhole(r *rand.Rand) string {
	few := []string{"a", "A", "b", "ab", "a\x01a", "\x00", "\xc0\x0c", "svc", "mesh", strings.Repeat("x", 63)}
	s := "\x00"
	for r.Intn(4) > 0 {
		l := few[r.Intn(len(few))]
		if len(s)+1+len(l) > 255 {
			break
		}
		s = string([]byte{byte(len(l))}) + l + s
	}
	return s
}

// anyRecord: a record that is well made, but for OPT and the wrong list.
func anyRecord(r *rand.Rand) api.Record {
	kind := []int{1, 2, 5, 6, 12, 16, 28, 33, 99, 41}[r.Intn(10)]
	x := api.Record{Name: anyWhole(r), Type: kind, Class: r.Intn(65536), TTL: r.Intn(1 << 32)}
	switch kind {
	case 2, 5, 12:
		x.Data = anyWhole(r)
	case 6:
		x.Data = anyWhole(r) + anyWhole(r) + strings.Repeat("\x01a\x00\x00", 5)
	case 33:
		x.Data = "123456" + anyWhole(r)
	case 16:
		x.Data = []string{"\x00", "\x02ab\x00\x01c"}[r.Intn(2)]
	case 41:
		x.Name, x.Data = "\x00", "\x00\x01\x00\x02ab\x00\x01\x00\x00"[:r.Intn(2)*6]
	case 99:
		x.Data = strings.Repeat("\x01a\x00", r.Intn(9))
		if r.Intn(4) == 0 {
			x.Data = strings.Repeat("f", []int{16383, 16384, 65535}[r.Intn(3)]-r.Intn(200))
		}
	default:
		x.Data = anyData(r, kind, 0)
	}
	return x
}

// anyMade: a message that is well made, or nearly so.
func anyMade(r *rand.Rand) api.Message {
	m := api.Message{ID: r.Intn(65536), Flags: r.Intn(65536)}
	for range r.Intn(5) {
		m.Questions = append(m.Questions, api.Question{Name: anyWhole(r), Type: r.Intn(65536), Class: r.Intn(65536)})
	}
	opts := 0
	for k, l := range []*[]api.Record{&m.Answers, &m.Authority, &m.Extra} {
		for range r.Intn(6) {
			x := anyRecord(r)
			if x.Type == 41 && (k != 2 || opts > 0) && r.Intn(20) > 0 {
				continue
			}
			if x.Type == 41 {
				opts++
			}
			if r.Intn(100) == 0 {
				x = spoilt(r, x)
			}
			*l = append(*l, x)
		}
	}
	return m
}

// spoilt: the record with one thing of it changed.
func spoilt(r *rand.Rand, x api.Record) api.Record {
	n := []int{-1, 65536, 1 << 32, 0, 65535}[r.Intn(5)]
	cut := func(s string) string {
		if b := []byte(s); len(b) > 0 && r.Intn(2) == 0 {
			b[r.Intn(len(b))] = byte([]int{r.Intn(256), r.Intn(64), 192, 0}[r.Intn(4)])
			return string(b)
		}
		return []string{s[:r.Intn(len(s)+1)], s + "\x00", "\xc0\x00"}[r.Intn(3)]
	}
	switch r.Intn(5) {
	case 0:
		x.Class = n
	case 1:
		x.TTL = n
	case 2:
		x.Type = []int{n, 1, 2, 5, 6, 12, 16, 28, 33, 41}[r.Intn(10)]
	case 3:
		x.Name = cut(x.Name)
	case 4:
		x.Data = cut(x.Data)
	}
	return x
}

func TestP9Written(t *testing.T) {
	r := rand.New(rand.NewSource(2))
	seen := [8]int{}
	for range 20000 {
		seen[wantWritten(t, anyMade(r))]++
	}
	for _, e := range []api.Errno{api.OK, api.ErrLong, api.ErrMessage} {
		if seen[e] < 500 {
			t.Errorf("the error %d came %d times alone: %v", e, seen[e], seen)
		}
	}
}

// TestP9FromBytes: so too for whatever Parse reads.
func TestP9FromBytes(t *testing.T) {
	r := rand.New(rand.NewSource(3))
	seen := 0
	for range 50000 {
		if m, e := zone.Parse(anyMessage(r)); e == api.OK {
			seen++
			wantWritten(t, m)
		}
	}
	if seen < 1000 {
		t.Errorf("%d messages alone could be read", seen)
	}
}
