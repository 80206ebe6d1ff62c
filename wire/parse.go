package wire

import "zone/api"

// Parse reads a message (P3).
func Parse(b string) (api.Message, api.Errno) {
	if len(b) > api.MaxMessage {
		return api.Message{}, api.ErrLong
	}
	r := reader{b: b}
	m := r.message()
	if r.fail != api.OK {
		return api.Message{}, r.fail
	}
	if r.at != len(b) {
		return api.Message{}, api.ErrRest
	}
	return m, api.OK
}

// message reads a message, and looks at nothing behind it.
func (r *reader) message() api.Message {
	m := api.Message{}
	m.ID = r.number(2)
	m.Flags = r.number(2)
	questions := r.number(2)
	answers := r.number(2)
	authority := r.number(2)
	extra := r.number(2)
	m.Questions = r.questions(questions)
	m.Answers = r.records(answers, false)
	m.Authority = r.records(authority, false)
	m.Extra = r.records(extra, true)
	return m
}

// questions reads so many questions.
func (r *reader) questions(count int) []api.Question {
	// The list grows as it is read: a count may say far more than there is.
	var l []api.Question
	for i := 0; i < count && r.fail == api.OK; i++ {
		q := r.question()
		l = append(l, q)
	}
	return l
}

// question reads a question.
func (r *reader) question() api.Question {
	q := api.Question{}
	q.Name = r.name()
	q.Type = r.number(2)
	q.Class = r.number(2)
	return q
}

// records reads so many records; extra tells whether they are the extra ones,
// of which one may be an OPT.
func (r *reader) records(count int, extra bool) []api.Record {
	var l []api.Record
	mayOpt := extra
	for i := 0; i < count && r.fail == api.OK; i++ {
		x := r.record()
		if r.fail == api.OK && x.Type == api.TypeOPT {
			if !mayOpt || x.Name != api.Root {
				r.fail = api.ErrOpt
			}
			mayOpt = false
		}
		l = append(l, x)
	}
	return l
}

// record reads a record.
func (r *reader) record() api.Record {
	x := api.Record{}
	x.Name = r.name()
	x.Type = r.number(2)
	x.Class = r.number(2)
	x.TTL = r.number(4)
	x.Data = r.data(x.Type)
	return x
}

// data reads the length of a record's data, and the data.
func (r *reader) data(kind int) string {
	size := r.number(2)
	at := r.at
	raw := r.bytes(size)
	// Data that are not all there are ErrShort, whatever is wrong with them.
	if r.fail != api.OK {
		return ""
	}
	whole, fits := wholeData(r.b, at, raw, kind)
	if !fits {
		r.fail = api.ErrData
	}
	return whole
}
