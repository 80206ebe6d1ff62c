package zone_test

import (
	"fmt"
	"math/rand"
	"slices"
	"strings"
	"testing"

	"zone/api"
	"zone/zone"
)

// own: a record of the zone.
func own(name string, kind int, data string) api.Record {
	return api.Record{Name: name, Type: kind, Class: 1, TTL: 30, Data: data}
}

// start: the two records with which every zone begins.
func start(serial int) []api.Record {
	numbers := long(serial) + long(3600) + long(600) + long(86400) + long(30)
	return []api.Record{
		own(name("svc", "mesh"), 6, name("ns", "svc", "mesh")+name("admin", "svc", "mesh")+numbers),
		own(name("svc", "mesh"), 2, name("ns", "svc", "mesh")),
	}
}

// node: the name of a node or an alias.
func node(label string) string { return name(label, "svc", "mesh") }

// service: the SRV of a node.
func service(port int, label string) api.Record {
	return own(name("_node", "_tcp", "svc", "mesh"), 33, word(0)+word(0)+word(port)+node(label))
}

// wantZone: Records of the news is the start with the serial, and these.
func wantZone(t *testing.T, what string, l []api.Event, serial int, rest ...api.Record) {
	t.Helper()
	want := append(start(serial), rest...)
	if got := zone.Records(l); !slices.Equal(got, want) {
		t.Errorf("P13: %s: Records(%+v) = %#v, want %#v", what, l, got, want)
	}
	if got := modelRecords(l); !slices.Equal(got, want) {
		t.Errorf("P13: %s: the model says %#v, want %#v", what, got, want)
	}
}

// host: news of a node that is up, without text or alias.
func host(node string, inc, port int) api.Event {
	return api.Event{Kind: api.Alive, Node: node, Inc: inc, Addr: addr4, Port: port}
}

// named: the same, with an alias.
func named(node, alias string) api.Event {
	return api.Event{Kind: api.Alive, Node: node, Addr: addr4, Alias: alias}
}

func TestP13Examples(t *testing.T) {
	wantZone(t, "no news", nil, 0)
	wantZone(t, "an empty list", []api.Event{}, 0)
	wantZone(t, "alive and gone", []api.Event{host("n1", 2, 80), gone("n1", 2)}, 2)
	wantZone(t, "an alias", []api.Event{{Kind: api.Alive, Node: "n1", Inc: 3, Addr: addr4, Port: 80, Alias: "www"}}, 3,
		own(node("n1"), 1, addr4), own(node("www"), 5, node("n1")), service(80, "n1"))
}

func TestP13Start(t *testing.T) {
	l := zone.Records(nil)
	if len(l) != 2 {
		t.Fatalf("P13: %d records of no news", len(l))
	}
	soa := "\x02ns\x03svc\x04mesh\x00" + "\x05admin\x03svc\x04mesh\x00" + "\x00\x00\x00\x00" + "\x00\x00\x0e\x10" + "\x00\x00\x02\x58" + "\x00\x01\x51\x80" + "\x00\x00\x00\x1e"
	if want := (api.Record{Name: "\x03svc\x04mesh\x00", Type: 6, Class: 1, TTL: 30, Data: soa}); l[0] != want {
		t.Errorf("P13: the SOA is %#v, want %#v", l[0], want)
	}
	if want := (api.Record{Name: "\x03svc\x04mesh\x00", Type: 2, Class: 1, TTL: 30, Data: "\x02ns\x03svc\x04mesh\x00"}); l[1] != want {
		t.Errorf("P13: the NS is %#v, want %#v", l[1], want)
	}
}

func TestP13Serial(t *testing.T) {
	for _, inc := range []int{0, 1, 255, 256, 65535, 65536, 0x01020304, api.MaxInc} {
		wantZone(t, "serial, gone", []api.Event{gone("n1", inc)}, inc)
		wantZone(t, "serial, up", []api.Event{host("n1", inc, 80)}, inc, own(node("n1"), 1, addr4), service(80, "n1"))
	}
	wantZone(t, "of all good news", []api.Event{gone("a", 3), host("b", 1, 80), gone("c", 2)}, 3, own(node("b"), 1, addr4), service(80, "b"))
	wantZone(t, "not of others", []api.Event{gone("a", 3), gone("A", 9), gone("b", api.MaxInc+1), host("c", 7, -1)}, 3)
}

func TestP13Nodes(t *testing.T) {
	six := api.Event{Kind: api.Alive, Node: "a", Addr: addr6, Port: 65535, Text: "hi"}
	wantZone(t, "two nodes", []api.Event{host("b", 1, 258), six}, 1,
		own(node("a"), 28, addr6), own(node("a"), 16, "\x02hi"), own(node("b"), 1, addr4), service(65535, "a"), service(258, "b"))
	text := strings.Repeat("\xff", 60)
	wantZone(t, "the longest", []api.Event{{Kind: api.Alive, Node: "abcdefghijklmno", Addr: addr6, Text: text}}, 0,
		own("\x0fabcdefghijklmno\x03svc\x04mesh\x00", 28, addr6), own(node("abcdefghijklmno"), 16, "\x3c"+text), service(0, "abcdefghijklmno"))
	// Rising order is that of strings: - before digits, digits before letters, a before aa.
	rising := []string{"-", "--", "0", "10", "2", "a", "a-", "aa", "ab", "b", "n1", "n10", "n2", "ns", "z"}
	var hosts, services []api.Record
	var l []api.Event
	for k, n := range rising {
		hosts = append(hosts, own(node(n), 1, addr4))
		services = append(services, service(k, n))
		l = append(l, host(n, 0, k))
	}
	want := append(hosts, services...)
	wantZone(t, "rising", l, 0, want...)
	slices.Reverse(l)
	wantZone(t, "falling", l, 0, want...)
	r := rand.New(rand.NewSource(5))
	for range 50 {
		r.Shuffle(len(l), func(i, j int) { l[i], l[j] = l[j], l[i] })
		wantZone(t, "shuffled", l, 0, want...)
	}
}

func TestP13Aliases(t *testing.T) {
	// records: of nodes up, in order, and of aliases with their nodes between.
	records := func(nodes string, aliases ...string) []api.Record {
		var hosts, services []api.Record
		for _, n := range strings.Fields(nodes) {
			hosts = append(hosts, own(node(n), 1, addr4))
			services = append(services, service(0, n))
		}
		for i := 0; i+1 < len(aliases); i += 2 {
			hosts = append(hosts, own(node(aliases[i]), 5, node(aliases[i+1])))
		}
		return append(hosts, services...)
	}
	wantZone(t, "the least node", []api.Event{named("c", "z"), named("b", "z"), named("d", "z")}, 0, records("b c d", "z", "b")...)
	wantZone(t, "rising aliases", []api.Event{named("a", "z"), named("b", "y"), named("c", "-"), named("d", "10"), named("e", "2")}, 0,
		records("a b c d e", "-", "c", "10", "d", "2", "e", "y", "b", "z", "a")...)
	wantZone(t, "an alias that is a node", []api.Event{named("a", "b"), named("b", "c"), named("c", "")}, 0, records("a b c")...)
	wantZone(t, "its own alias", []api.Event{named("a", "a")}, 0, records("a")...)
	wantZone(t, "an alias of a node that is gone", []api.Event{named("a", "x"), named("b", "y"), gone("a", 0)}, 0, records("b", "y", "b")...)
	wantZone(t, "an alias that is a node that is gone", []api.Event{gone("c", 0), named("a", "c")}, 0, records("a", "c", "a")...)
	wantZone(t, "the least is gone", []api.Event{named("a", "z"), gone("a", 0), named("c", "z"), named("b", "z")}, 0, records("b c", "z", "b")...)
	wantZone(t, "an alias that no longer counts", []api.Event{named("a", "x"), {Kind: api.Alive, Node: "a", Inc: 1, Addr: addr4, Alias: "y"}}, 1, records("a", "y", "a")...)
	wantZone(t, "beyond and between nodes", []api.Event{named("b", "a"), named("d", "c"), named("f", "g"), named("h", "d")}, 0, records("b d f h", "a", "b", "c", "d", "g", "f")...)
	wantZone(t, "ns and admin", []api.Event{named("ns", "admin")}, 0, records("ns", "admin", "ns")...)
}

// TestP12Order: nothing hangs on the order of the news, or on their being told twice.
func TestP12Order(t *testing.T) {
	r := rand.New(rand.NewSource(7))
	for range 2000 {
		var l []api.Event
		for range 1 + r.Intn(20) {
			l = append(l, anyNews(r))
		}
		want := zone.Records(l)
		for range 3 {
			l = append(l, l[r.Intn(len(l))])
			r.Shuffle(len(l), func(i, j int) { l[i], l[j] = l[j], l[i] })
			if got := zone.Records(l); !slices.Equal(got, want) {
				t.Fatalf("P12: in another order: %+v gives %#v, before it was %#v", l, got, want)
			}
		}
	}
}

// TestP13WellMade: the records can be written and read.
func TestP13WellMade(t *testing.T) {
	r := rand.New(rand.NewSource(8))
	for range 500 {
		var l []api.Event
		for range r.Intn(30) {
			l = append(l, anyNews(r))
		}
		m := tell(zone.Records(l)...)
		b, e := zone.Serialize(m)
		if e != api.OK {
			t.Fatalf("P13: Records(%+v) cannot be written: %d", l, e)
		}
		wantMessage(t, "P13", b, m)
	}
}

func TestP1Many(t *testing.T) {
	var l []api.Event
	for k := range 50000 {
		n := k * 7919 % 20000
		l = append(l, api.Event{Kind: 1 + k%11/10, Node: fmt.Sprint("n", n), Inc: k / 20000, Addr: addr4, Port: n, Text: "t", Alias: fmt.Sprint("w", n%1000)})
	}
	wantRecords(t, "P12, P13: many", l)
}

func TestP2Records(t *testing.T) {
	fresh := func() []api.Event {
		return []api.Event{alive("c", 1), alive("b", 2), gone("b", 2), alive("a", 1), alive("c", 3), {Node: "spare"}, {Node: "room"}}
	}
	l := fresh()
	want := slices.Clone(zone.Records(l[:5]))
	for range 3 {
		got := zone.Records(l[:5])
		if !slices.Equal(l, fresh()) {
			t.Fatalf("P2: the news that were handed in read %+v", l)
		}
		if !slices.Equal(got, want) {
			t.Fatalf("P2: Records was %#v, now %#v", want, got)
		}
		spoil(got)
	}
	// Nor is what was handed in kept: changing it changes no answer that is out already.
	got := zone.Records(l[:5])
	for i := range l {
		l[i] = api.Event{}
	}
	if !slices.Equal(got, want) {
		t.Errorf("P2: the answer hangs on the list that was handed in: %#v", got)
	}
}
