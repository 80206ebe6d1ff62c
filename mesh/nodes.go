package mesh

import "zone/api"

// upNodes gives of each node that is up the news that count, in rising order
// of the nodes (P12).
func upNodes(good []api.Event) []api.Event {
	counting := countingNews(good)
	var up []api.Event
	for i := 0; i < len(counting); i++ {
		if counting[i].Kind == api.Alive {
			up = append(up, counting[i])
		}
	}
	return up
}

// countingNews gives of each node the news that count, in rising order of the nodes.
func countingNews(good []api.Event) []api.Event {
	l := byNode(good)
	var counting []api.Event
	for i := 0; i < len(l); i++ {
		// All news about one node stand together.
		last := len(counting) - 1
		if last < 0 || counting[last].Node != l[i].key {
			counting = append(counting, l[i].news)
		} else if beats(l[i].news, counting[last]) {
			counting[last] = l[i].news
		}
	}
	return counting
}

// byNode gives news in rising order of their nodes.
func byNode(l []api.Event) []entry {
	var out []entry
	for i := 0; i < len(l); i++ {
		out = append(out, entry{key: l[i].Node, news: l[i]})
	}
	return sorted(out)
}

// byAlias gives those of the news that tell an alias, in rising order of the aliases.
func byAlias(l []api.Event) []entry {
	var out []entry
	for i := 0; i < len(l); i++ {
		if l[i].Alias != "" {
			out = append(out, entry{key: l[i].Alias, news: l[i]})
		}
	}
	return sorted(out)
}

// aliases gives, for each alias that gets a record, the node that is up, has
// it and is the least such, in rising order of the aliases (P13, 4).
func aliases(up []api.Event) []api.Event {
	l := byAlias(up)
	var out []api.Event
	node := 0
	for i := 0; i < len(l); i++ {
		// The nodes are in order, and so of those with one alias the first is the least.
		if i > 0 && l[i-1].key == l[i].key {
			continue
		}
		// Both lists rise: nodes below this alias are below all that come.
		for node < len(up) && up[node].Node < l[i].key {
			node++
		}
		if node == len(up) || up[node].Node != l[i].key {
			out = append(out, l[i].news)
		}
	}
	return out
}
