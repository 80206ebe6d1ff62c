package answer

import (
	"zone/api"
	"zone/wire"
)

// reply is an answer in the making.
type reply struct {
	id, flags int
	told      int
	questions []api.Question
	hasOpt    bool
	sets      []set // those that are wanted
	limit     int   // so many bytes it may have
}

// limit gives how many bytes an answer may have, by the class of the
// question's OPT, or 0 (P17).
func limit(class int, stream bool) int {
	if stream {
		return api.MaxMessage
	}
	if class < api.Small {
		return api.Small
	}
	if class > api.Large {
		return api.Large
	}
	return class
}

// bytes writes the reply, with as many of the wanted sets as fit.
func (x *reply) bytes() string {
	count := x.fitting()
	m := x.message(count)
	b, e := wire.Serialize(m)
	if e != api.OK {
		return ""
	}
	return b
}

// fitting gives how many of the wanted sets, from the front on, fit (P17).
func (x *reply) fitting() int {
	// A set more makes the bytes more, so the number is found by halves:
	// least sets fit (with none the bytes are few), more than most do not.
	least := 0
	most := len(x.sets)
	for least < most {
		middle := most - (most-least)/2
		if x.fits(middle) {
			least = middle
		} else {
			most = middle - 1
		}
	}
	return least
}

// fits tells whether the reply with the first count sets is within the limit.
func (x *reply) fits(count int) bool {
	m := x.message(count)
	b, e := wire.Serialize(m)
	return e == api.OK && len(b) <= x.limit
}

// message gives the reply with the first count of the wanted sets.
func (x *reply) message(count int) api.Message {
	m := api.Message{ID: x.id, Flags: x.flags | x.told%16, Questions: x.questions}
	for i := 0; i < len(x.sets); i++ {
		s := x.sets[i]
		switch {
		case i >= count:
			m.Flags = m.Flags | cut(s.part)
		case s.part == inAnswers:
			m.Answers = append(m.Answers, s.records...)
		case s.part == inAuthority:
			m.Authority = append(m.Authority, s.records...)
		default:
			m.Extra = append(m.Extra, s.records...)
		}
	}
	if x.hasOpt {
		opt := x.opt()
		m.Extra = append(m.Extra, opt)
	}
	return m
}

// cut gives the flag for a set of the part that is left out.
func cut(part int) int {
	if part == inExtra {
		return 0
	}
	return api.FlagCut
}

// opt gives the OPT of the reply (P15). What is told has more bits than the
// flags have room for: its time to live holds the others.
func (x *reply) opt() api.Record {
	return api.Record{Name: api.Root, Type: api.TypeOPT, Class: api.Large, TTL: x.told / 16 * (1 << 24)}
}
