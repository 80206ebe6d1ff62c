// Package answer: the bytes that answer the bytes of a question.
package answer

import (
	"zone/api"
	"zone/mesh"
	"zone/wire"
)

// head is how many bytes a message has ahead of its questions.
const head = 12

// opcode is the part of a message's flags that says what is asked for.
const opcode = 0x7800

// Respond gives the bytes that answer q, or the empty string (P14).
func Respond(l []api.Event, q string, stream bool) string {
	if len(q) < head || len(q) > api.MaxMessage {
		return ""
	}
	flags := 256*int(q[2]) + int(q[3])
	if flags&api.FlagAnswer != 0 {
		return ""
	}
	x := reply{id: 256*int(q[0]) + int(q[1]), flags: api.FlagAnswer | flags&api.FlagKept}
	m, e := wire.Parse(q)
	if e == api.OK {
		x.take(m, l, stream)
	} else {
		x.told = api.BadForm
	}
	return x.bytes()
}

// take makes the reply one to m, which could be read (P15).
func (x *reply) take(m api.Message, l []api.Event, stream bool) {
	opt, found := options(m.Extra)
	x.hasOpt = found
	x.limit = limit(opt.Class, stream)
	if len(m.Questions) != 1 {
		x.told = api.BadForm
		return
	}
	x.questions = m.Questions
	q := m.Questions[0]
	x.told = refusal(m.Flags, opt.TTL, q)
	if x.told == api.Fine {
		x.look(l, q)
	}
}

// look makes the reply the zone's own (P16).
func (x *reply) look(l []api.Event, q api.Question) {
	x.flags = x.flags | api.FlagOwn
	records := mesh.Records(l)
	s := search{records: records}
	name := small(q.Name)
	x.told = s.run(name, q.Type)
	x.sets = s.sets
}

// options gives the OPT of a message's extra records, and whether there is
// one. If there is none, the zero record says what no OPT means: the version
// 0, and no more bytes than any answer may have.
func options(extra []api.Record) (api.Record, bool) {
	for i := 0; i < len(extra); i++ {
		if extra[i].Type == api.TypeOPT {
			return extra[i], true
		}
	}
	return api.Record{}, false
}

// refusal gives what is told to a question ahead of any look into the zone;
// or Fine, if it is to be looked for there (P15).
func refusal(flags, life int, q api.Question) int {
	if flags&opcode != 0 {
		return api.NotDone
	}
	if life/65536%256 != 0 {
		return api.BadVers
	}
	name := small(q.Name)
	if q.Class != api.ClassIN || !isWithin(name, api.Origin) {
		return api.Refused
	}
	return api.Fine
}
