package answer

import "zone/api"

// The parts of a message in which a set may stand.
const (
	inAnswers   = 0
	inAuthority = 1
	inExtra     = 2
)

// headSRV is how many bytes the data of an SRV have ahead of the name.
const headSRV = 6

// set is all records of the zone with one name and one type.
type set struct {
	part    int
	kind    int
	records []api.Record
}

// search is a look into the zone.
type search struct {
	records []api.Record // the zone's
	sets    []set        // those that are wanted
}

// run finds the sets that are wanted, and gives what is told (P16).
func (s *search) run(name string, kind int) int {
	if !s.has(name) {
		s.want(inAuthority, api.Origin, api.TypeSOA)
		return api.NoName
	}
	s.wantAnswers(name, kind)
	if !s.answers(kind) {
		s.want(inAuthority, api.Origin, api.TypeSOA)
	}
	s.wantHosts()
	return api.Fine
}

// has tells whether a record has the name or one below it.
func (s *search) has(name string) bool {
	for i := 0; i < len(s.records); i++ {
		if isWithin(s.records[i].Name, name) {
			return true
		}
	}
	return false
}

// wantAnswers wants the sets of the answers.
func (s *search) wantAnswers(name string, kind int) {
	if kind == api.TypeAny {
		s.wantAll(name)
		return
	}
	if kind == api.TypeCNAME {
		s.want(inAnswers, name, kind)
		return
	}
	alias := s.of(name, api.TypeCNAME)
	s.want(inAnswers, name, api.TypeCNAME)
	if len(alias) > 0 {
		name = alias[0].Data
	}
	s.want(inAnswers, name, kind)
}

// wantAll wants all sets with the name as answers, in the order of their first records.
func (s *search) wantAll(name string) {
	for i := 0; i < len(s.records); i++ {
		kind := s.records[i].Type
		if s.records[i].Name == name && !s.hasSet(kind) {
			s.want(inAnswers, name, kind)
		}
	}
}

// wantHosts wants, for each SRV among the answers, the address of its node.
func (s *search) wantHosts() {
	services := s.services()
	// The nodes rise among the addresses as they do among the services, so
	// one walk through the records finds all of them.
	at := 0
	for i := 0; i < len(services); i++ {
		node := target(services[i].Data)
		for at < len(s.records) && !isHost(s.records[at], node) {
			at++
		}
		if at < len(s.records) {
			x := s.records[at]
			s.add(inExtra, x.Type, []api.Record{x})
		}
	}
}

// services gives the records of the set SRV, if it is wanted.
func (s *search) services() []api.Record {
	for i := 0; i < len(s.sets); i++ {
		if s.sets[i].kind == api.TypeSRV {
			return s.sets[i].records
		}
	}
	return nil
}

// target gives the name in the data of an SRV.
func target(data string) string {
	if len(data) < headSRV {
		return ""
	}
	return data[headSRV:]
}

// isHost tells whether a record is the address of a node.
func isHost(x api.Record, node string) bool {
	return x.Name == node && (x.Type == api.TypeA || x.Type == api.TypeAAAA)
}

// answers tells whether the sets that are wanted answer a question of the type.
func (s *search) answers(kind int) bool {
	if kind == api.TypeAny {
		return len(s.sets) > 0
	}
	return s.hasSet(kind)
}

// hasSet tells whether a set of the type is wanted already.
func (s *search) hasSet(kind int) bool {
	for i := 0; i < len(s.sets); i++ {
		if s.sets[i].kind == kind {
			return true
		}
	}
	return false
}

// want wants the set with the name and the type, if there is one.
func (s *search) want(part int, name string, kind int) {
	records := s.of(name, kind)
	if len(records) > 0 {
		s.add(part, kind, records)
	}
}

// add puts a set behind the others.
func (s *search) add(part, kind int, records []api.Record) {
	s.sets = append(s.sets, set{part: part, kind: kind, records: records})
}

// of gives the zone's records with the name and the type.
func (s *search) of(name string, kind int) []api.Record {
	var l []api.Record
	for i := 0; i < len(s.records); i++ {
		if s.records[i].Name == name && s.records[i].Type == kind {
			l = append(l, s.records[i])
		}
	}
	return l
}
