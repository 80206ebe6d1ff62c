package wire

import (
	"zone/api"
	"zone/number"
)

// Serialize writes a message (P7).
func Serialize(m api.Message) (string, api.Errno) {
	if !isMessage(m) {
		return "", api.ErrMessage
	}
	w := writer{}
	w.message(m)
	if w.full() {
		return "", api.ErrLong
	}
	return string(w.b), api.OK
}

// full tells whether more has been written than a message may have.
func (w *writer) full() bool { return len(w.b) > api.MaxMessage }

// message writes a message that is well made; of one that is too long, it
// writes no more than it takes to see that.
func (w *writer) message(m api.Message) {
	w.word(m.ID)
	w.word(m.Flags)
	w.word(len(m.Questions))
	w.word(len(m.Answers))
	w.word(len(m.Authority))
	w.word(len(m.Extra))
	w.questions(m.Questions)
	w.records(m.Answers)
	w.records(m.Authority)
	w.records(m.Extra)
}

// questions writes questions.
func (w *writer) questions(l []api.Question) {
	for i := 0; i < len(l) && !w.full(); i++ {
		w.name(l[i].Name)
		w.word(l[i].Type)
		w.word(l[i].Class)
	}
}

// records writes records.
func (w *writer) records(l []api.Record) {
	for i := 0; i < len(l) && !w.full(); i++ {
		w.record(l[i])
	}
}

// record writes a record.
func (w *writer) record(x api.Record) {
	w.name(x.Name)
	w.word(x.Type)
	w.word(x.Class)
	life := number.Long(x.TTL)
	w.bytes(life)
	at := len(w.b) + 2
	data := w.shortData(x.Data, x.Type, at)
	w.word(len(data))
	w.bytes(data)
}

// shortData gives the bytes of data that are written at the offset at: with
// those of their names short that may be so.
func (w *writer) shortData(data string, kind, at int) string {
	names, rest := namesIn(kind)
	if names == 0 {
		return data
	}
	r := reader{b: data}
	short := ""
	for i := 0; i < names; i++ {
		name := r.name()
		s := w.short(name, at+len(short))
		short = short + s
	}
	behind := r.bytes(rest)
	return short + behind
}
