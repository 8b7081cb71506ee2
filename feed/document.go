package feed

import "pounce/utf"

// document is one, as far as it was taken. It embeds the bytes' reader, which is always there: none of its calls tells an error.
type document struct {
	utf.Reader
	told  string // what the reader told; a string, so that a copy of a document shares nothing that is written
	count int    // of bytes, not of what they are told as
}

func (d *document) add(b []byte) {
	text, _ := d.Feed(b)
	d.told += text
	d.count += len(b)
}

// end answers the document's text, and begins anew.
func (d *document) end() string {
	rest, _ := d.End()
	text := d.told + rest
	*d = document{}
	return text
}
