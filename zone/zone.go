// Package zone: a small name server: messages as bytes, a zone out of news about nodes, answers. See DOC.md.
package zone

import (
	"zone/answer"
	"zone/api"
	"zone/mesh"
	"zone/stream"
	"zone/wire"
)

// Parse reads a message (P3 to P5).
func Parse(b string) (api.Message, api.Errno) { return wire.Parse(b) }

// Serialize writes a message (P7 to P9).
func Serialize(m api.Message) (string, api.Errno) { return wire.Serialize(m) }

// Frame writes messages one behind the other, as a stream (P10).
func Frame(l []string) (string, api.Errno) { return stream.Frame(l) }

// Feed takes a stream, in chunks.
type Feed struct {
	in stream.Feed
}

// NewFeed: nothing has come yet (P11).
func NewFeed() *Feed { return &Feed{} }

// Push takes a chunk, and tells the messages that are whole with it (P11).
func (x *Feed) Push(chunk string) []string {
	if x == nil {
		return nil
	}
	return x.in.Push(chunk)
}

// Left tells how many bytes are held (P11).
func (x *Feed) Left() int {
	if x == nil {
		return 0
	}
	return x.in.Left()
}

// Records tells the zone's records (P12, P13).
func Records(l []api.Event) []api.Record { return mesh.Records(l) }

// Respond tells the bytes that answer q, or the empty string (P14 to P18).
func Respond(l []api.Event, q string, stream bool) string { return answer.Respond(l, q, stream) }
