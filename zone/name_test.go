package zone_test

import (
	"strings"
	"testing"

	"zone/api"
)

// labels: labels that take size bytes (not 1), each with its length ahead.
func labels(size int) string {
	s := ""
	for size > 0 {
		n := min(size-1, 63)
		if size-1-n == 1 {
			n--
		}
		s += string([]byte{byte(n)}) + strings.Repeat("l", n)
		size -= n + 1
	}
	return s
}

func TestP4Labels(t *testing.T) {
	any := make([]byte, 256)
	for i := range any {
		any[i] = byte(i)
	}
	for _, c := range []struct{ what, name string }{
		{"the root", name()},
		{"letters as they stand", name("aZ", "Az", "MESH")},
		{"a label of 63", name(strings.Repeat("y", 63))},
		{"bytes of any values", name(string(any[:63]), string(any[63:126]), string(any[126:189]))},
		{"bytes of any other values", name(string(any[189:223]), string(any[223:]))},
		{"bytes like pointers", name("\xc0\x0c", "\x00", "\xff\xff")},
		{"127 labels", strings.Repeat("\x01a", 127) + "\x00"},
	} {
		wantName(t, "P4: "+c.what, head(1, 0, 0, 0)+question(c.name), c.name)
	}
	for size := 64; size <= 191; size++ {
		one := string([]byte{byte(size)})
		wantError(t, "P4: no length", head(1, 0, 0, 0)+question(one+strings.Repeat("y", size)+"\x00"), api.ErrName)
		wantError(t, "P4: no length, behind a label", head(1, 0, 0, 0)+"\x01a"+one, api.ErrName)
	}
}

func TestP4Short(t *testing.T) {
	for _, c := range []string{"", "\x01", "\x01a", "\x02a", "\x3f" + strings.Repeat("x", 62), "\xc0", "\xff", "\x01a\xc0", "\x01a\xff"} {
		wantError(t, "P4: the bytes end", head(1, 0, 0, 0)+c, api.ErrShort)
	}
	// At 23 stands a 1, so the pointer's first byte is a label, and its
	// second one the length of a label that is not all there.
	wantError(t, "P4: the bytes end in a later run", head(2, 0, 0, 0)+question(name("a", "Bc", "d"))+question(pointer(23)), api.ErrShort)
}

func TestP4Pointers(t *testing.T) {
	// At 12: a, 14: Bc, 17: d, 19: 0, 20: the type, 22: the class, 24: what is next.
	b := head(2, 0, 0, 0) + question(name("a", "Bc", "d"))
	for _, c := range []struct{ what, own, want string }{
		{"alone", pointer(12), name("a", "Bc", "d")},
		{"into the name", pointer(14), name("Bc", "d")},
		{"to the last label", pointer(17), name("d")},
		{"to the 0", pointer(19), name()},
		{"behind a label", "\x01x" + pointer(17), name("x", "d")},
		{"behind two labels", "\x01x\x01y" + pointer(12), name("x", "y", "a", "Bc", "d")},
		{"to the first byte of all", pointer(0), name()},
		{"into the numbers ahead", "\x01x" + pointer(5), name("x", "\x00\x00")},
		{"into the numbers of a question", "\x01x" + pointer(22), name("x")},
		{"just below, and over its own run", "\x01\x00" + pointer(23), name("\x00", "\x01")},
	} {
		wantName(t, "P4: a pointer "+c.what, b+question(c.own), c.want)
	}
	for _, own := range []string{pointer(24), pointer(25), pointer(26), pointer(255), pointer(16383), "\x01x" + pointer(24), "\x01x" + pointer(25), "\x01x" + pointer(26), "\x01x" + pointer(27), pointer(13), pointer(15), "\x40" + pointer(12)} {
		wantError(t, "P4: no pointer", b+question(own), api.ErrName)
	}
	wantError(t, "P4: not below, then the end", b+pointer(24), api.ErrName)
	wantError(t, "P4: below, then the end", b+pointer(12), api.ErrShort)
}

// behindData: a message with these data of a type that may hold anything, at
// dataAt, and a second record with the name.
func behindData(data, name string) string {
	return head(0, 2, 0, 0) + record("\x00", 999, data) + record(name, 999, "")
}

func TestP4Chains(t *testing.T) {
	data := "\x01a\x00" + // 23
		"\x01b" + pointer(23) + // 26
		pointer(26) + // 30
		"\x01c" + pointer(32) + // 32: not below its own run
		"\x01d" + pointer(37) + // 36: into its own run
		"\x01e" + pointer(42) + // 40: its own pointer
		"\x01f" + pointer(46) + // 44: not below
		pointer(40) + // 48
		pointer(30) + // 50
		"\x01g" + pointer(50) // 52
	for _, c := range []struct {
		own, want string
	}{
		{pointer(23), name("a")},
		{pointer(26), name("b", "a")},
		{pointer(28), name("a")},
		{pointer(30), name("b", "a")},
		{pointer(50), name("b", "a")},
		{"\x01h" + pointer(52), name("h", "g", "b", "a")},
	} {
		b := behindData(data, c.own)
		wantMessage(t, "P4: runs", b, api.Message{ID: 7, Answers: []api.Record{
			{Name: "\x00", Type: 999, Class: 1, TTL: 9, Data: data},
			{Name: c.want, Type: 999, Class: 1, TTL: 9},
		}})
	}
	for _, to := range []int{32, 34, 36, 40, 44, 48} {
		wantError(t, "P4: a later run's pointer that is not below", behindData(data, pointer(to)), api.ErrName)
	}
}

func TestP4FarPointers(t *testing.T) {
	for _, at := range []int{255, 256, 257, 511, 512, 8192, 16382, 16383} {
		data := strings.Repeat("\xff", at-dataAt) + name("z") + "\xff"
		m := api.Message{ID: 7, Answers: []api.Record{
			{Name: "\x00", Type: 999, Class: 1, TTL: 9, Data: data},
			{Name: name("y", "z"), Type: 999, Class: 1, TTL: 9},
		}}
		wantMessage(t, "P4: a far pointer", behindData(data, "\x01y"+pointer(at)), m)
	}
}

func TestP4Long(t *testing.T) {
	one, two := head(1, 0, 0, 0), head(2, 0, 0, 0)
	known := labels(100) + "\x00"
	wantName(t, "P4: 255 bytes", one+question(labels(254)+"\x00"), labels(254)+"\x00")
	wantName(t, "P4: 255 bytes, by a pointer to a 0", one+question(labels(254)+pointer(0)), labels(254)+"\x00")
	wantName(t, "P4: 255 bytes, by a pointer", two+question(known)+question(labels(154)+pointer(12)), labels(154)+known)
	for _, c := range []struct {
		what, b string
		want    api.Errno
	}{
		{"256 bytes", one + question(labels(255)+"\x00"), api.ErrName},
		{"256 bytes, by a pointer to a 0", one + question(labels(255)+pointer(0)), api.ErrName},
		{"256 bytes, by a pointer", two + question(known) + question(labels(155)+pointer(12)), api.ErrName},
		{"far more", one + question(strings.Repeat(labels(64), 100)+"\x00"), api.ErrName},
		{"254 bytes of labels, then the end", one + labels(254), api.ErrShort},
		{"255 bytes of labels, then the end", one + labels(255), api.ErrName},
		{"too long, but the label is cut", one + labels(255)[:254], api.ErrShort},
		{"too long, but only the length is there", one + labels(254) + "\x3f", api.ErrShort},
		{"too long by a pointer, then the end", two + question(known) + labels(155) + pointer(12), api.ErrName},
		{"too long by a pointer that is cut", two + question(known) + labels(155) + "\xc0", api.ErrShort},
		{"255 bytes by a pointer, then the end", two + question(known) + labels(154) + pointer(12), api.ErrShort},
	} {
		wantError(t, "P4: "+c.what, c.b, c.want)
	}
}
