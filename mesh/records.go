package mesh

import (
	"zone/api"
	"zone/number"
)

// The numbers of the SOA behind the serial.
const (
	refresh = 3600
	retry   = 600
	expire  = 86400
	least   = 30
)

// list is the zone's records, as far as they are made.
type list struct {
	records []api.Record
}

// Records gives the zone's records (P13).
func Records(l []api.Event) []api.Record {
	good := goodNews(l)
	serial := greatestInc(good)
	up := upNodes(good)
	z := list{}
	start := soa(serial)
	z.add(api.Origin, api.TypeSOA, start)
	z.add(api.Origin, api.TypeNS, api.Server)
	z.addHosts(up)
	z.addAliases(up)
	z.addServices(up)
	return z.records
}

// add puts a record behind the others.
func (z *list) add(name string, kind int, data string) {
	x := api.Record{Name: name, Type: kind, Class: api.ClassIN, TTL: api.Life, Data: data}
	z.records = append(z.records, x)
}

// addHosts adds the addresses and texts of the nodes.
func (z *list) addHosts(up []api.Event) {
	for i := 0; i < len(up); i++ {
		name := below(up[i].Node)
		kind := api.TypeA
		if len(up[i].Addr) == size6 {
			kind = api.TypeAAAA
		}
		z.add(name, kind, up[i].Addr)
		if up[i].Text != "" {
			text := counted(up[i].Text)
			z.add(name, api.TypeTXT, text)
		}
	}
}

// addAliases adds the aliases of the nodes.
func (z *list) addAliases(up []api.Event) {
	l := aliases(up)
	for i := 0; i < len(l); i++ {
		alias := below(l[i].Alias)
		node := below(l[i].Node)
		z.add(alias, api.TypeCNAME, node)
	}
}

// addServices adds the services of the nodes.
func (z *list) addServices(up []api.Event) {
	for i := 0; i < len(up); i++ {
		zero := number.Word(0)
		port := number.Word(up[i].Port)
		node := below(up[i].Node)
		z.add(api.Service, api.TypeSRV, zero+zero+port+node)
	}
}

// soa gives the data of the SOA.
func soa(serial int) string {
	data := api.Server + api.Admin
	numbers := [5]int{serial, refresh, retry, expire, least}
	for i := 0; i < len(numbers); i++ {
		part := number.Long(numbers[i])
		data = data + part
	}
	return data
}

// counted gives a text of at most 255 bytes with its length ahead.
func counted(s string) string { return string([]byte{byte(len(s))}) + s }

// below gives the name that is one label ahead of Origin, whole.
func below(label string) string { return counted(label) + api.Origin }
