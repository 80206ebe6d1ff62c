package zone_test

import (
	"fmt"
	"strings"
	"testing"

	"zone/api"
	"zone/zone"
)

// full: a message with something in each list, well made.
func full() api.Message {
	l := func() []api.Record {
		return []api.Record{rec(name("a"), 1, "abcd"), rec(name("b", "a"), 2, name("c", "a")), rec("\x00", 999, "x")}
	}
	m := ask(name("a"), name("b"), "\x00")
	m.Answers, m.Authority, m.Extra = l(), l(), append(l(), rec("\x00", 41, "\x00\x01\x00\x01o"))
	return m
}

// wantInAll: a question and a record that are changed so are refused, or not, wherever they stand.
func wantInAll(t *testing.T, what string, want api.Errno, q func(*api.Question), r func(*api.Record)) {
	t.Helper()
	check := func(where string, m api.Message) {
		t.Helper()
		b, e := zone.Serialize(m)
		if e != want || e != api.OK && b != "" {
			t.Errorf("P6: %s, %s: Serialize = %.80x, %d, want %d", what, where, b, e, want)
		}
	}
	for i := range 3 {
		if q != nil {
			m := full()
			q(&m.Questions[i])
			check(fmt.Sprint("question ", i), m)
		}
		if r != nil {
			for k := range 3 {
				m := full()
				r(&[][]api.Record{m.Answers, m.Authority, m.Extra}[k][i])
				check(fmt.Sprint("record ", i, " of list ", k), m)
			}
		}
	}
}

func wantNumber(t *testing.T, what string, good, bad []int, q func(*api.Question, int), r func(*api.Record, int)) {
	t.Helper()
	for k, n := range append(append([]int{}, good...), bad...) {
		want := api.OK
		if k >= len(good) {
			want = api.ErrMessage
		}
		var onQ func(*api.Question)
		if q != nil {
			onQ = func(x *api.Question) { q(x, n) }
		}
		wantInAll(t, fmt.Sprint(what, " ", n), want, onQ, func(x *api.Record) { r(x, n) })
	}
}

func TestP6Numbers(t *testing.T) {
	words := []int{0, 1, 255, 256, 65534, 65535}
	wrong := []int{-1, -65535, 65536, 65536 + 7, 1 << 32, 1<<63 - 1, -1 << 63}
	wantNumber(t, "class", words, wrong,
		func(q *api.Question, n int) { q.Class = n }, func(r *api.Record, n int) { r.Class = n })
	wantNumber(t, "type", append(words, 41), append(wrong, 65536+41),
		func(q *api.Question, n int) { q.Type = n },
		func(r *api.Record, n int) {
			r.Data = "abcd"
			if r.Type = n; n == 41 {
				r.Type = 40
			}
		})
	wantNumber(t, "time to live", append(words, 65536, 1<<31, 1<<32-1), []int{-1, 1 << 32, 1<<32 + 9, 1<<63 - 1, -1 << 63},
		nil, func(r *api.Record, n int) { r.TTL = n })
	for _, n := range words {
		m := full()
		m.ID, m.Flags = n, 65535-n
		if _, e := zone.Serialize(m); e != api.OK {
			t.Errorf("P6: ID %d, Flags %d: %d", m.ID, m.Flags, e)
		}
	}
	for _, n := range wrong {
		m := full()
		m.ID = n
		wantNoBytes(t, "P6: ID", m, api.ErrMessage)
		m.ID, m.Flags = 7, n
		wantNoBytes(t, "P6: Flags", m, api.ErrMessage)
	}
}

func TestP6Names(t *testing.T) {
	wantName := func(s string, want api.Errno) {
		t.Helper()
		what := fmt.Sprintf("the name %.80q", s)
		wantInAll(t, what, want, func(q *api.Question) { q.Name = s }, func(r *api.Record) { r.Name = s })
		wantInAll(t, what+" in NS", want, nil, func(r *api.Record) { r.Type, r.Data = 2, s })
		wantInAll(t, what+" in CNAME", want, nil, func(r *api.Record) { r.Type, r.Data = 5, s })
		wantInAll(t, what+" in PTR", want, nil, func(r *api.Record) { r.Type, r.Data = 12, s })
		wantInAll(t, what+" in SRV", want, nil, func(r *api.Record) { r.Type, r.Data = 33, "\x00\x00\x00\x00\x00\x01"+s })
		rest := strings.Repeat("\xff", 20)
		wantInAll(t, what+" in SOA", want, nil, func(r *api.Record) { r.Type, r.Data = 6, s+name("z")+rest })
		wantInAll(t, what+" in SOA, second", want, nil, func(r *api.Record) { r.Type, r.Data = 6, name("z")+s+rest })
	}
	x63, x64 := strings.Repeat("x", 63), strings.Repeat("x", 64)
	for _, s := range []string{
		"\x00", name("a"), name("A", "\x00", "\xc0\x0c", "."), name(x63), name(x63, x63, x63, x63[:61]),
		strings.Repeat("\x01a", 127) + "\x00", name("a", "a", "a"),
	} {
		wantName(s, api.OK)
	}
	for _, s := range []string{
		"", "a", "\x01", "\x01a", "\x02a\x00", "\x00\x00", "\x01a\x00\x00", "\x01a\x00\x01b\x00", name(x63)[:64],
		"\x40" + x64 + "\x00", "\x80\x00", "\xbf\x00", "\xc0\x00", "\xc0\x0c", "\x01a\xc0\x00", "\x01a\xc0\x0c", "\xff\xff", "\xc0",
		name(x63, x63, x63, x63[:62]), strings.Repeat("\x01a", 127) + "\x01a\x00", name(x63, x63, x63, x63), strings.Repeat("\x01a", 127),
	} {
		wantName(s, api.ErrMessage)
	}
}

func TestP6Data(t *testing.T) {
	z20 := strings.Repeat("z", 20)
	for _, c := range []struct {
		kind      int
		good, bad []string
	}{
		{1, []string{"abcd", "\x00\x00\x00\x00"}, []string{"", "abc", "abcde"}},
		{28, []string{"0123456789abcdef"}, []string{"", "abcd", "0123456789abcde", "0123456789abcdefg"}},
		{2, nil, []string{"\x00" + z20}},
		{6, []string{"\x00\x00" + z20, name("A") + "\x00" + z20}, []string{
			"", "\x00", "\x00\x00", z20, "\x00" + z20, "\x00\x00" + z20 + "z", "\x00\x00" + z20[1:],
			name("a") + "\xc0\x00" + z20, name("a") + "\x01b\xc0\x00" + z20, "\x00\xc0\x00" + z20, name("a") + "\xc0\x02" + z20}},
		{33, []string{"123456\x00"}, []string{"", "\x00", "12345\x00", "123456", "123456\x00\x00", "\x01a\x0056\x00\xc0\x00", "\x01a\x00456\xc0\x00", "123456\x01a\xc0\x05"}},
		{16, []string{"\x00", "\x01a", "\x00\x00", "\x03abc\x00\xff" + strings.Repeat("t", 255)}, []string{"", "\x01", "\x02a", "\x00\x01", "\xff" + strings.Repeat("t", 254)}},
		{999, []string{"", "x", "\xc0\x0c", "\x40"}, nil},
		{257, []string{"", "abc"}, nil},
		{0, []string{"", "abc"}, nil},
		{255, []string{"", "abc"}, nil},
		{65535, []string{"", "abc"}, nil},
	} {
		for _, d := range c.good {
			wantInAll(t, fmt.Sprintf("data of type %d: %.60q", c.kind, d), api.OK, nil, func(r *api.Record) { r.Type, r.Data = c.kind, d })
		}
		for _, d := range c.bad {
			wantInAll(t, fmt.Sprintf("data of type %d: %.60q", c.kind, d), api.ErrMessage, nil, func(r *api.Record) { r.Type, r.Data = c.kind, d })
		}
	}
}

// TestP6LongData: what has more than 65535 bytes is not well made; what has fewer is, but too long for a message.
func TestP6LongData(t *testing.T) {
	option := func(size int) string { return word(1) + word(size) + strings.Repeat("o", size) }
	for _, c := range []struct {
		kind int
		data func(size int) string
	}{
		{999, func(size int) string { return strings.Repeat("f", size) }},
		{16, func(size int) string { return strings.Repeat("\x00", size) }},
		{41, func(size int) string { return option(60000) + option(size-60008) }},
	} {
		for _, s := range []struct {
			size int
			want api.Errno
		}{{65534, api.ErrLong}, {65535, api.ErrLong}, {65536, api.ErrMessage}, {65540, api.ErrMessage}} {
			m := api.Message{Extra: []api.Record{rec("\x00", c.kind, c.data(s.size))}}
			wantNoBytes(t, fmt.Sprint("P6: type ", c.kind, ", ", s.size, " bytes"), m, s.want)
		}
	}
}

func TestP6Opt(t *testing.T) {
	with := func(f func(*api.Message)) api.Message {
		m := full()
		f(&m)
		return m
	}
	opt, none := rec("\x00", 41, ""), rec("\x00", 999, "")
	for k, l := range [][]api.Record{{opt}, {opt, none}, {none, opt}, {none, opt, none}, {rec("\x00", 41, "\x00\x01\x00\x00")}, {rec("\x00", 41, "\xff\xff\x00\x02op\x00\x01\x00\x00")}} {
		m := with(func(m *api.Message) { m.Extra = l })
		if _, e := zone.Serialize(m); e != api.OK {
			t.Errorf("P6: extra list %d with an OPT: %d", k, e)
		}
	}
	for _, l := range [][]api.Record{{opt, opt}, {opt, none, opt}, {rec(name("a"), 41, "")}, {none, rec(name("a"), 41, "")}, {opt, rec(name("a"), 41, "")}, {rec("", 41, "")},
		{rec("\x00", 41, "x")}, {rec("\x00", 41, "\x00\x01\x00")}, {rec("\x00", 41, "\x00\x01\x00\x01")}, {rec("\x00", 41, "\x00\x01\x00\x00x")}} {
		wantNoBytes(t, "P6: OPT among extra", with(func(m *api.Message) { m.Extra = l }), api.ErrMessage)
	}
	for _, l := range [][]api.Record{{opt}, {none, opt}, {opt, none}} {
		for _, extra := range [][]api.Record{nil, {opt}} {
			wantNoBytes(t, "P6: OPT among answers", with(func(m *api.Message) { m.Answers, m.Extra = l, extra }), api.ErrMessage)
			wantNoBytes(t, "P6: OPT among authority", with(func(m *api.Message) { m.Authority, m.Extra = l, extra }), api.ErrMessage)
		}
	}
}

func TestP6Members(t *testing.T) {
	for _, c := range []struct {
		size int
		want api.Errno
	}{{65535, api.ErrLong}, {65536, api.ErrMessage}, {70000, api.ErrMessage}} {
		l := make([]api.Record, c.size)
		for i := range l {
			l[i].Name = "\x00"
		}
		q := make([]api.Question, c.size)
		for i := range q {
			q[i].Name = "\x00"
		}
		wantNoBytes(t, "P6: so many questions", api.Message{Questions: q}, c.want)
		wantNoBytes(t, "P6: so many answers", api.Message{Answers: l}, c.want)
		wantNoBytes(t, "P6: so many authority records", api.Message{Authority: l}, c.want)
		wantNoBytes(t, "P6: so many extra records", api.Message{Extra: l}, c.want)
	}
}
