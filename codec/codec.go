// Package codec is layer 1: records as bytes, and frames that tell whether bytes are whole. See shared/doc/01-codec.md.
package codec

import "coxswain/api"

// The sizes that a record's parts may have, written or read.
const (
	maxList  = 64
	maxBytes = 65536
)

// PutCmd writes a command; GetCmd reads one.
func PutCmd(c api.Cmd) ([]byte, api.Errno) {
	w := &writer{}
	w.cmd(c)
	return w.done()
}

// GetCmd reads what PutCmd wrote.
func GetCmd(data []byte) (api.Cmd, bool) {
	r := &reader{left: data}
	return whole(r, r.cmd)
}

// PutEntry writes an entry; GetEntry reads one.
func PutEntry(x api.Entry) ([]byte, api.Errno) {
	w := &writer{}
	w.entry(x)
	return w.done()
}

// GetEntry reads what PutEntry wrote.
func GetEntry(data []byte) (api.Entry, bool) {
	r := &reader{left: data}
	return whole(r, r.entry)
}

// PutMsg writes a message; GetMsg reads one.
func PutMsg(m api.Msg) ([]byte, api.Errno) {
	w := &writer{}
	w.msg(m)
	return w.done()
}

// GetMsg reads what PutMsg wrote.
func GetMsg(data []byte) (api.Msg, bool) {
	r := &reader{left: data}
	return whole(r, r.msg)
}

// PutSnapshot writes a snapshot; GetSnapshot reads one.
func PutSnapshot(s api.Snapshot) ([]byte, api.Errno) {
	w := &writer{}
	w.snapshot(s)
	return w.done()
}

// GetSnapshot reads what PutSnapshot wrote.
func GetSnapshot(data []byte) (api.Snapshot, bool) {
	r := &reader{left: data}
	return whole(r, r.snapshot)
}

// PutStore writes a store; GetStore reads one.
func PutStore(s api.Store) ([]byte, api.Errno) {
	w := &writer{}
	w.store(s)
	return w.done()
}

// GetStore reads what PutStore wrote.
func GetStore(data []byte) (api.Store, bool) {
	r := &reader{left: data}
	return whole(r, r.store)
}
