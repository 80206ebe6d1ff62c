package zone_test

import (
	"math"
	"slices"
	"strings"
	"testing"

	"zone/api"
	"zone/zone"
)

const (
	addr4 = "\x0a\x00\x00\x01"
	addr6 = "0123456789abcdef"
)

// alive: good news of a node that is up, with every part of them set.
func alive(node string, inc int) api.Event {
	return api.Event{Kind: api.Alive, Node: node, Inc: inc, Addr: addr4, Port: 80, Text: "text", Alias: "www"}
}

// gone: good news of a node that is gone.
func gone(node string, inc int) api.Event {
	return api.Event{Kind: api.Gone, Node: node, Inc: inc}
}

// change: the news with one thing of them changed.
func change(e api.Event, f func(*api.Event)) api.Event {
	f(&e)
	return e
}

// wantGood: the news e, of the node n with Inc 7, are good or not: of a node
// that is up with Inc 6 and another one they count, or are as if they were not there.
func wantGood(t *testing.T, what string, e api.Event, good bool) {
	t.Helper()
	before := []api.Event{alive("n", 6), alive("other", 1)}
	with := zone.Records([]api.Event{before[0], e, before[1]})
	without := zone.Records(before)
	if changed := !slices.Equal(with, without); changed != good {
		t.Errorf("P12: %s: %.200q: good is %v, want %v", what, e.Node, changed, good)
	}
	wantRecords(t, "P12: "+what, []api.Event{before[0], e, before[1]})
}

func TestP12Node(t *testing.T) {
	for _, c := range []struct {
		node string
		good bool
	}{
		{"", false}, {"a", true}, {"-", true}, {"0", true}, {"---", true}, {"n-1", true}, {"-a", true}, {"a-", true},
		{strings.Repeat("a", 15), true}, {strings.Repeat("a", 16), false}, {strings.Repeat("a", 63), false},
		{strings.Repeat("a", 70000), false}, {"a.b", false}, {"N1", false}, {"é", false}, {"a b", false}, {"a\x00", false}, {"_node", false},
	} {
		wantGood(t, "node, Alive", alive(c.node, 7), c.good)
		wantGood(t, "node, Gone", gone(c.node, 7), c.good)
		wantGood(t, "alias", change(alive("n", 7), func(e *api.Event) { e.Alias = c.node }), c.good || c.node == "")
	}
}

// TestP12Bytes: each byte, at the front, in the middle and at the end.
func TestP12Bytes(t *testing.T) {
	for c := range 256 {
		s := string([]byte{byte(c)})
		good := strings.Contains("abcdefghijklmnopqrstuvwxyz0123456789-", s)
		for _, label := range []string{s, s + "bc", "b" + s + "c", "bc" + s, strings.Repeat("b", 14) + s} {
			wantGood(t, "a byte, Alive", alive(label, 7), good)
			wantGood(t, "a byte, Gone", gone(label, 7), good)
			wantGood(t, "a byte of an alias", change(alive("n", 7), func(e *api.Event) { e.Alias = label }), good)
		}
	}
}

func TestP12Numbers(t *testing.T) {
	for _, c := range []struct {
		inc  int
		good bool
	}{{-1, false}, {math.MinInt, false}, {7, true}, {api.MaxInc - 1, true}, {api.MaxInc, true}, {api.MaxInc + 1, false}, {1 << 32, false}, {1<<32 + 7, false}, {math.MaxInt, false}} {
		wantGood(t, "Inc, Alive", alive("n", c.inc), c.good)
		wantGood(t, "Inc, Gone", gone("n", c.inc), c.good)
	}
	// 0 is good as well, though it counts only where there is nothing else.
	if l := zone.Records([]api.Event{alive("n", 0)}); len(l) != 6 {
		t.Errorf("P12: Inc 0: %d records, want 6", len(l))
	}
	for _, kind := range []int{0, -1, 3, 4, 255, 257, 258, math.MinInt, math.MaxInt} {
		wantGood(t, "Kind", change(alive("n", 7), func(e *api.Event) { e.Kind = kind }), false)
	}
	for _, c := range []struct {
		port int
		good bool
	}{{-1, false}, {math.MinInt, false}, {0, true}, {1, true}, {65535, true}, {65536, false}, {65536 + 80, false}, {math.MaxInt, false}} {
		wantGood(t, "Port", change(alive("n", 7), func(e *api.Event) { e.Port = c.port }), c.good)
	}
}

func TestP12Strings(t *testing.T) {
	for _, size := range []int{0, 1, 3, 4, 5, 8, 15, 16, 17, 32, 256 + 4, 256 + 16, 70000} {
		wantGood(t, "Addr", change(alive("n", 7), func(e *api.Event) { e.Addr = strings.Repeat("\xff", size) }), size == 4 || size == 16)
	}
	for _, size := range []int{0, 1, 59, 60, 61, 255, 256, 256 + 60, 70000} {
		wantGood(t, "Text", change(alive("n", 7), func(e *api.Event) { e.Text = strings.Repeat("\x00", size) }), size <= 60)
	}
}

// TestP12Gone: of a node that is gone nothing else is looked at.
func TestP12Gone(t *testing.T) {
	bad := api.Event{Kind: api.Gone, Node: "n", Inc: 7, Addr: "x", Port: -1, Text: strings.Repeat("x", 99), Alias: "?"}
	wantGood(t, "Gone", bad, true)
	for _, l := range [][]api.Event{{bad, alive("n", 7)}, {alive("n", 7), bad}, {gone("n", 7), bad, alive("n", 6)}} {
		if got := zone.Records(l); len(got) != 2 {
			t.Errorf("P12: %d records of a node that is gone", len(got))
		}
		wantRecords(t, "P12: Gone", l)
	}
}

// ranks: good news about one node; each counts rather than all before it.
func ranks() []api.Event {
	news := func(inc int, addr string, port int, text, alias string) api.Event {
		return api.Event{Kind: api.Alive, Node: "n", Inc: inc, Addr: addr, Port: port, Text: text, Alias: alias}
	}
	return []api.Event{
		news(0, "zzzz", 9, "z", "z"),
		gone("n", 0),
		news(1, "\x00\x00\x00\x00", 65535, "z", "z"),
		news(1, "\x00\x00\x00\x01", 0, "", ""),
		news(1, "\x09\xff\xff\xff", 0, "", ""),
		news(1, "\x09\xff\xff\xff"+strings.Repeat("\x00", 12), 0, "", ""),
		news(1, "\x0a\x00\x00\x01", 9, "z", "z"),
		news(1, "\x0a\x00\x00\x01", 80, "", ""),
		news(1, "\x0a\x00\x00\x01", 80, "", "a"),
		news(1, "\x0a\x00\x00\x01", 80, "B", "z"),
		news(1, "\x0a\x00\x00\x01", 80, "a", "z"),
		news(1, "\x0a\x00\x00\x01", 80, "aa", ""),
		news(1, "\x0a\x00\x00\x01", 80, "aa", "-"),
		news(1, "\x0a\x00\x00\x01", 80, "aa", "0"),
		news(1, "\x0a\x00\x00\x01", 80, "aa", "a"),
		news(1, "\x0a\x00\x00\x01", 80, "aa", "a-"),
		news(1, "\x0a\x00\x00\x01", 80, "aa", "b"),
		news(1, "\x0a\x00\x00\x01", 80, "b", ""),
		news(1, "\x0a\x00\x00\x01", 80, "\x80", ""),
		news(1, "\x0a\x00\x00\x01", 443, "", ""),
		news(1, "\xff\xff\xff\xff", 0, "", ""),
		news(1, strings.Repeat("\xff", 16), 0, "", ""),
		gone("n", 1),
		news(2, "\x00\x00\x00\x00", 0, "", ""),
		news(10, "\x00\x00\x00\x00", 0, "", ""),
		gone("n", api.MaxInc-1),
		news(api.MaxInc, "\x00\x00\x00\x00", 0, "", ""),
		gone("n", api.MaxInc),
	}
}

func TestP12Ranks(t *testing.T) {
	l := ranks()
	for i := range l {
		want := zone.Records(l[i : i+1])
		for j := range i {
			for _, news := range [][]api.Event{{l[j], l[i]}, {l[i], l[j]}, {l[i], l[j], l[i]}, {l[j], l[i], l[j]}} {
				if got := zone.Records(news); !slices.Equal(got, want) {
					t.Errorf("P12: %+v should count rather than %+v: %+v", l[i], l[j], got)
				}
			}
		}
		if got := zone.Records(l[:i+1]); !slices.Equal(got, want) {
			t.Errorf("P12: %+v should count: %+v", l[i], got)
		}
	}
}
