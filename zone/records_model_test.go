package zone_test

import (
	"fmt"
	"math"
	"math/rand"
	"regexp"
	"slices"
	"strings"
	"testing"

	"zone/api"
	"zone/zone"
)

var label = regexp.MustCompile(`\A[a-z0-9-]{1,15}\z`)

// modelGood: the news are good.
func modelGood(e api.Event) bool {
	if !label.MatchString(e.Node) || e.Inc < 0 || e.Inc > 2147483647 {
		return false
	}
	switch e.Kind {
	case api.Gone:
		return true
	case api.Alive:
		return (len(e.Addr) == 4 || len(e.Addr) == 16) && e.Port >= 0 && e.Port <= 65535 && len(e.Text) <= 60 && (e.Alias == "" || label.MatchString(e.Alias))
	}
	return false
}

// modelKey: of two good news about one node those with the greater key count ("gone" is greater than "alive").
func modelKey(e api.Event) string {
	if e.Kind == api.Gone {
		return fmt.Sprintf("%010d gone", e.Inc)
	}
	// Ahead of each byte stands a 1, and behind the last a 0: so keys compare as the strings in them do, one after the other.
	plain := func(s string) string {
		k := ""
		for i := range len(s) {
			k += "1" + s[i:i+1]
		}
		return k + "0"
	}
	return fmt.Sprintf("%010d alive%s%05d%s%s", e.Inc, plain(e.Addr), e.Port, plain(e.Text), plain(e.Alias))
}

// modelRecords is Records once more, with maps and the library's sort.
func modelRecords(l []api.Event) []api.Record {
	serial := 0
	best := map[string]api.Event{}
	for _, e := range l {
		if !modelGood(e) {
			continue
		}
		serial = max(serial, e.Inc)
		if old, ok := best[e.Node]; !ok || modelKey(e) > modelKey(old) {
			best[e.Node] = e
		}
	}
	var up, aliases []string
	for n, e := range best {
		if e.Kind == api.Alive {
			up = append(up, n)
		}
	}
	slices.Sort(up)
	of := map[string]string{}
	for _, n := range up {
		a := best[n].Alias
		if _, ok := of[a]; a != "" && !ok && !slices.Contains(up, a) {
			of[a] = n
			aliases = append(aliases, a)
		}
	}
	slices.Sort(aliases)
	out := start(serial)
	for _, n := range up {
		out = append(out, own(node(n), map[int]int{4: 1, 16: 28}[len(best[n].Addr)], best[n].Addr))
		if s := best[n].Text; s != "" {
			out = append(out, own(node(n), 16, string([]byte{byte(len(s))})+s))
		}
	}
	for _, a := range aliases {
		out = append(out, own(node(a), 5, node(of[a])))
	}
	for _, n := range up {
		out = append(out, service(best[n].Port, n))
	}
	return out
}

// wantRecords: Records answers as modelRecords does.
func wantRecords(t *testing.T, what string, l []api.Event) {
	t.Helper()
	if got, want := zone.Records(l), modelRecords(l); !slices.Equal(got, want) {
		t.Errorf("%s: Records(%.2000s) = %.2000s, want %.2000s", what, fmt.Sprintf("%+v", l), fmt.Sprintf("%#v", got), fmt.Sprintf("%#v", want))
	}
}

// anyNews: news of few nodes and few values, good or nearly so.
func anyNews(r *rand.Rand) api.Event {
	names := []string{"a", "b", "c", "ab", "a-", "1", "-", "n1", "n10", "n2"}
	e := api.Event{
		Kind:  []int{api.Alive, api.Alive, api.Alive, api.Gone}[r.Intn(4)],
		Node:  names[r.Intn(len(names))],
		Inc:   r.Intn(3),
		Addr:  []string{addr4, "\x0a\x00\x00\x02", addr6, addr4 + addr4 + addr4 + addr4}[r.Intn(4)],
		Port:  []int{0, 80, 443, 65535}[r.Intn(4)],
		Text:  []string{"", "a", "b", "\x00"}[r.Intn(4)],
		Alias: append(names, "", "", "www", "x", "0")[r.Intn(len(names)+5)],
	}
	if r.Intn(8) == 0 {
		switch r.Intn(7) {
		case 0:
			e.Kind = r.Intn(5) - 1
		case 1:
			e.Node = []string{"", "A", "a.b", "abcdefghijklmnop"}[r.Intn(4)]
		case 2:
			e.Inc = []int{-1, api.MaxInc, api.MaxInc + 1, 1 << 32}[r.Intn(4)]
		case 3:
			e.Addr = "\x0a\x00\x00\x01\x02"[:r.Intn(6)]
		case 4:
			e.Port = []int{-1, 65536, math.MaxInt}[r.Intn(3)]
		case 5:
			e.Text = strings.Repeat("t", 59+r.Intn(3))
		case 6:
			e.Alias = []string{"A", "a_b", "abcdefghijklmno", "abcdefghijklmnop"}[r.Intn(4)]
		}
	}
	return e
}

func TestP13Random(t *testing.T) {
	r := rand.New(rand.NewSource(6))
	for range 20000 {
		var l []api.Event
		for range r.Intn(30) {
			l = append(l, anyNews(r))
		}
		wantRecords(t, "P12, P13", l)
		if t.Failed() {
			return
		}
	}
}
