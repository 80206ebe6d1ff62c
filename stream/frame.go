// Package stream: messages one behind the other, each with its length ahead.
package stream

import (
	"zone/api"
	"zone/number"
)

// Frame writes messages as a stream (P10).
func Frame(l []string) (string, api.Errno) {
	// All of them first: beside an error nothing need be written.
	for i := 0; i < len(l); i++ {
		if len(l[i]) > api.MaxMessage {
			return "", api.ErrLong
		}
	}
	var b []byte
	for i := 0; i < len(l); i++ {
		size := number.Word(len(l[i]))
		b = append(b, size...)
		b = append(b, l[i]...)
	}
	return string(b), api.OK
}
