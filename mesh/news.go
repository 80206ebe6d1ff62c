// Package mesh: the records of a zone, out of news about the nodes of a mesh.
package mesh

import "zone/api"

// The sizes of an address.
const (
	size4 = 4
	size6 = 16
)

// goodNews gives those of the news that are good (P12).
func goodNews(l []api.Event) []api.Event {
	var good []api.Event
	for i := 0; i < len(l); i++ {
		if isGood(l[i]) {
			good = append(good, l[i])
		}
	}
	return good
}

// isGood tells whether news are good.
func isGood(e api.Event) bool {
	if !isLabel(e.Node) || e.Inc < 0 || e.Inc > api.MaxInc {
		return false
	}
	// What else is told of a node that is gone is not looked at.
	return e.Kind == api.Gone || e.Kind == api.Alive && isHost(e)
}

// isHost tells whether news are good in what is asked of those that are Alive.
func isHost(e api.Event) bool {
	return (len(e.Addr) == size4 || len(e.Addr) == size6) &&
		e.Port >= 0 && e.Port <= api.MaxWord &&
		len(e.Text) <= api.MaxText &&
		(e.Alias == "" || isLabel(e.Alias))
}

// isLabel tells whether s may be the name of a node.
func isLabel(s string) bool {
	if s == "" || len(s) > api.MaxNode {
		return false
	}
	for i := 0; i < len(s); i++ {
		if !isLetter(s[i]) {
			return false
		}
	}
	return true
}

// isLetter tells whether c may stand in the name of a node.
func isLetter(c byte) bool {
	return c >= 'a' && c <= 'z' || c >= '0' && c <= '9' || c == '-'
}

// beats tells whether of two good news about one node a counts rather than b.
func beats(a, b api.Event) bool {
	if a.Inc != b.Inc {
		return a.Inc > b.Inc
	}
	if a.Kind != b.Kind {
		return a.Kind == api.Gone
	}
	// Between two that are Gone it is all the same.
	if a.Addr != b.Addr {
		return a.Addr > b.Addr
	}
	if a.Port != b.Port {
		return a.Port > b.Port
	}
	if a.Text != b.Text {
		return a.Text > b.Text
	}
	return a.Alias > b.Alias
}

// greatestInc gives the greatest Inc of good news, or 0.
func greatestInc(good []api.Event) int {
	greatest := 0
	for i := 0; i < len(good); i++ {
		if good[i].Inc > greatest {
			greatest = good[i].Inc
		}
	}
	return greatest
}
