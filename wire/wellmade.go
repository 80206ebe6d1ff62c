package wire

import "zone/api"

// isMessage tells whether a message is well made (P6).
func isMessage(m api.Message) bool {
	return isWord(m.ID) && isWord(m.Flags) && areQuestions(m.Questions) &&
		areRecords(m.Answers, false) && areRecords(m.Authority, false) && areRecords(m.Extra, true)
}

// isWord tells whether n is a number of two bytes.
func isWord(n int) bool { return n >= 0 && n <= api.MaxWord }

// areQuestions tells whether these may be the questions of a message.
func areQuestions(l []api.Question) bool {
	if len(l) > api.MaxWord {
		return false
	}
	for i := 0; i < len(l); i++ {
		if !isName(l[i].Name) || !isWord(l[i].Type) || !isWord(l[i].Class) {
			return false
		}
	}
	return true
}

// areRecords tells whether these may be one of a message's lists of records;
// extra tells whether it is the extra ones, of which one may be an OPT.
func areRecords(l []api.Record, extra bool) bool {
	if len(l) > api.MaxWord {
		return false
	}
	mayOpt := extra
	for i := 0; i < len(l); i++ {
		if !isRecord(l[i]) {
			return false
		}
		if l[i].Type == api.TypeOPT {
			if !mayOpt || l[i].Name != api.Root {
				return false
			}
			mayOpt = false
		}
	}
	return true
}

// isRecord tells whether a record may stand in some list of a message.
func isRecord(x api.Record) bool {
	return isName(x.Name) && isWord(x.Type) && isWord(x.Class) &&
		x.TTL >= 0 && x.TTL <= api.MaxLife && isData(x.Data, x.Type)
}

// isName tells whether s is a name, whole, and nothing else.
func isName(s string) bool {
	r := reader{b: s}
	name := r.name()
	return r.fail == api.OK && name == s
}

// isData tells whether data are as their type says, with the names whole.
func isData(data string, kind int) bool {
	if len(data) > api.MaxWord {
		return false
	}
	// Names that are read come out whole: they are the same only without a pointer.
	whole, fits := wholeData(data, 0, data, kind)
	return fits && whole == data
}
