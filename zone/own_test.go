package zone_test

import (
	"testing"

	"zone/api"
	"zone/zone"
)

// spoil writes into a list, and behind its end as far as there is room.
func spoil(l []api.Record) {
	for i := range l[:cap(l)] {
		l[:cap(l)][i] = api.Record{Name: "spoilt", Type: -1, Data: "spoilt"}
	}
}

func TestP2Own(t *testing.T) {
	fresh := func() api.Message {
		m, e := zone.Parse(rich())
		if e != api.OK {
			t.Fatalf("P2: Parse tells %d", e)
		}
		return m
	}
	want := fresh()
	for k := range 4 {
		m := fresh()
		part := []*[]api.Record{&m.Answers, &m.Authority, &m.Extra}
		if k < 3 {
			spoil(*part[k])
			*part[k] = [][]api.Record{want.Answers, want.Authority, want.Extra}[k]
		} else {
			for i := range m.Questions[:cap(m.Questions)] {
				m.Questions[:cap(m.Questions)][i] = api.Question{Name: "spoilt"}
			}
			m.Questions = want.Questions
		}
		if !like(m, want) {
			t.Errorf("P2: what was written into list %d changed another: %#v", k, m)
		}
		if again := fresh(); !like(again, want) {
			t.Errorf("P2: what was written into list %d changed a later answer: %#v", k, again)
		}
	}
}

func TestP2SameAgain(t *testing.T) {
	l := []string{rich(), head(1, 0, 0, 0) + "\x40", "", rich() + "x", head(1, 0, 0, 0) + question(name("a")), rich()[:40]}
	type answer struct {
		m api.Message
		e api.Errno
	}
	var first []answer
	for _, b := range l {
		m, e := zone.Parse(b)
		first = append(first, answer{m, e})
	}
	for k := len(l) - 1; k >= 0; k-- {
		if m, e := zone.Parse(l[k]); e != first[k].e || !like(m, first[k].m) {
			t.Errorf("P2: Parse(%.60x) was %#v, now %#v, %d", l[k], first[k], m, e)
		}
	}
}
