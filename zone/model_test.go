package zone_test

import (
	"math/rand"
	"strings"
	"testing"

	"zone/api"
	"zone/zone"
)

// model is Parse once more, as near to the document's words as can be and
// with no thought of speed: what cannot be read is a panic with the error.
func model(b string) (m api.Message, e api.Errno) {
	if len(b) > api.MaxMessage {
		return m, api.ErrLong
	}
	defer func() {
		if r := recover(); r != nil {
			m, e = api.Message{}, r.(api.Errno)
		}
	}()
	at := 0
	number := func(size int) (n int) {
		for ; size > 0; size-- {
			n = n<<8 | int(modelByte(b, at))
			at++
		}
		return n
	}
	m.ID, m.Flags = number(2), number(2)
	counts := [4]int{number(2), number(2), number(2), number(2)}
	for range counts[0] {
		n, next, _ := modelName(b, at)
		at = next
		m.Questions = append(m.Questions, api.Question{Name: n, Type: number(2), Class: number(2)})
	}
	opts := 0
	for k, l := range []*[]api.Record{&m.Answers, &m.Authority, &m.Extra} {
		for range counts[k+1] {
			n, next, _ := modelName(b, at)
			at = next
			r := api.Record{Name: n, Type: number(2), Class: number(2), TTL: number(4)}
			size := number(2)
			if at+size > len(b) {
				panic(api.ErrShort)
			}
			r.Data = modelData(b, at, at+size, r.Type)
			at += size
			if r.Type == 41 {
				opts++
				if k != 2 || n != "\x00" || opts > 1 {
					panic(api.ErrOpt)
				}
			}
			*l = append(*l, r)
		}
	}
	if at < len(b) {
		panic(api.ErrRest)
	}
	return m, api.OK
}

func modelByte(b string, at int) byte {
	if at >= len(b) {
		panic(api.ErrShort)
	}
	return b[at]
}

// modelName: the name at the offset, whole; the offset behind it; and whether there is a pointer in it.
func modelName(b string, at int) (string, int, bool) {
	var found []string
	total, start, next := 1, at, -1
	for {
		c := int(modelByte(b, at))
		switch {
		case c == 0:
			if next < 0 {
				return strings.Join(found, "") + "\x00", at + 1, false
			}
			return strings.Join(found, "") + "\x00", next, true
		case c < 64:
			modelByte(b, at+c)
			found = append(found, b[at:at+c+1])
			total += c + 1
			if total > 255 {
				panic(api.ErrName)
			}
			at += c + 1
		case c < 192:
			panic(api.ErrName)
		default:
			to := (c-192)<<8 | int(modelByte(b, at+1))
			if to >= start {
				panic(api.ErrName)
			}
			if next < 0 {
				next = at + 2
			}
			at, start = to, to
		}
	}
}

// modelData: the data with their names whole; all that is wrong with them is ErrData.
func modelData(b string, at, end, kind int) string {
	defer func() {
		if recover() != nil {
			panic(api.ErrData)
		}
	}()
	must := func(ok bool) {
		if !ok {
			panic(api.ErrData)
		}
	}
	raw := b[at:end]
	switch kind {
	case 1:
		must(len(raw) == 4)
	case 28:
		must(len(raw) == 16)
	case 2, 5, 12:
		n, next, _ := modelName(b, at)
		must(next == end)
		return n
	case 6:
		n, next, _ := modelName(b, at)
		o, last, _ := modelName(b, next)
		must(last+20 == end)
		return n + o + b[last:end]
	case 33:
		_, next, pointed := modelName(b, at+6)
		must(next == end && !pointed)
	case 16:
		must(at < end)
		for at < end {
			at += 1 + int(b[at])
		}
		must(at == end)
	case 41:
		for at < end {
			must(at+4 <= end)
			at += 4 + int(b[at+2])<<8 + int(b[at+3])
		}
		must(at == end)
	}
	return raw
}

func wantModel(t *testing.T, b string) api.Errno {
	t.Helper()
	m, e := zone.Parse(b)
	want, wantE := model(b)
	if e != wantE || !like(m, want) {
		t.Fatalf("P3 to P5: Parse(%x) = %#v, %d, want %#v, %d", b, m, e, want, wantE)
	}
	return e
}

func TestModelOneByteChanged(t *testing.T) {
	b := []byte(rich())
	for i := range b {
		was := b[i]
		for c := range 256 {
			b[i] = byte(c)
			wantModel(t, string(b))
		}
		b[i] = was
	}
}

func TestModelAnyBytes(t *testing.T) {
	r := rand.New(rand.NewSource(1))
	seen := [8]int{}
	for range 200000 {
		e := wantModel(t, anyMessage(r))
		seen[e]++
	}
	for _, e := range []api.Errno{api.OK, api.ErrShort, api.ErrName, api.ErrData, api.ErrOpt, api.ErrRest} {
		if seen[e] < 100 {
			t.Errorf("the error %d came %d times alone: %v", e, seen[e], seen)
		}
	}
}

// anyMessage: bytes that are nearly a message, or one.
func anyMessage(r *rand.Rand) string {
	counts := [4]int{r.Intn(3), r.Intn(3), r.Intn(2), r.Intn(3)}
	b := head(counts[0], counts[1], counts[2], counts[3])
	for range counts[0] {
		b += question(anyName(r, len(b)))
	}
	for k := range counts[1] + counts[2] + counts[3] {
		kind := []int{1, 2, 5, 6, 12, 16, 28, 33, 99}[r.Intn(9)]
		if k >= counts[1]+counts[2] && r.Intn(2) == 0 || r.Intn(20) == 0 {
			kind = 41
		}
		n := "\x00"
		if kind != 41 || r.Intn(5) == 0 {
			n = anyName(r, len(b))
		}
		b += record(n, kind, anyData(r, kind, len(b)+len(n)+10))
	}
	c := []byte(b)
	for r.Intn(2) == 0 {
		c[r.Intn(len(c))] = byte([]int{r.Intn(256), r.Intn(64), 192, 0}[r.Intn(4)])
	}
	if r.Intn(8) == 0 {
		c = c[:r.Intn(len(c)+1)]
	}
	if r.Intn(8) == 0 {
		c = append(c, byte(r.Intn(256)))
	}
	return string(c)
}

// anyName: a name that stands at the offset, or nearly one.
func anyName(r *rand.Rand, at int) string {
	s := ""
	for r.Intn(2) == 0 {
		n := 1 + r.Intn(3)
		if r.Intn(8) == 0 {
			n = 63
		}
		s += string([]byte{byte(n)}) + strings.Repeat("w", n)
	}
	if r.Intn(2) == 0 {
		return s + "\x00"
	}
	return s + pointer(r.Intn(min(at+1, 16384)))
}

// anyData: data of the type that stand at the offset, or nearly so.
func anyData(r *rand.Rand, kind, at int) string {
	switch kind {
	case 1, 28:
		return "0123456789abcdef"[:map[int]int{1: 4, 28: 16}[kind]]
	case 2, 5, 12:
		return anyName(r, at)
	case 6:
		n := anyName(r, at)
		return n + anyName(r, at+len(n)) + strings.Repeat("z", 20)
	case 33:
		return "123456" + anyName(r, 0)
	case 16:
		return "\x02ab\x00\x01c"[:3+r.Intn(4)]
	case 41:
		return "\x00\x01\x00\x02ab\x00\x01\x00\x00"[:r.Intn(11)]
	}
	return strings.Repeat("\xc0", r.Intn(9))
}

func TestP1Ends(t *testing.T) {
	// As many pointers as there can be, each to the one before it; and as
	// many names that go through all of them as there is room for.
	chain := name("z") + pointer(dataAt)
	for dataAt+len(chain) <= api.MaxPointer {
		chain += pointer(dataAt + len(chain) - 2)
	}
	last := dataAt + len(chain) - 2
	ahead := record("\x00", 999, chain)
	one := record(pointer(last), api.TypeCNAME, pointer(last))
	n := (api.MaxMessage - 12 - len(ahead)) / len(one)
	m, e := zone.Parse(head(0, 1+n, 0, 0) + ahead + strings.Repeat(one, n))
	if e != api.OK || len(m.Answers) != 1+n || m.Answers[n].Name != name("z") || m.Answers[n].Data != name("z") {
		t.Errorf("P1: a long row of pointers: Parse tells %d and %d answers", e, len(m.Answers))
	}
}
