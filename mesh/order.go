package mesh

import "zone/api"

// entry is news, with the text by which they are put in order.
type entry struct {
	key  string
	news api.Event
}

// sorted gives entries in rising order of their keys; those with one key stay
// in the order in which they were.
func sorted(l []entry) []entry {
	if len(l) < 2 {
		return l
	}
	half := len(l) / 2
	a := sorted(l[:half])
	b := sorted(l[half:])
	return merged(a, b)
}

// merged makes one sorted list of two; of one key those of a come first.
func merged(a, b []entry) []entry {
	var l []entry
	i := 0
	j := 0
	for i < len(a) && j < len(b) {
		if a[i].key <= b[j].key {
			l = append(l, a[i])
			i++
		} else {
			l = append(l, b[j])
			j++
		}
	}
	for ; i < len(a); i++ {
		l = append(l, a[i])
	}
	for ; j < len(b); j++ {
		l = append(l, b[j])
	}
	return l
}
