package fileset

import (
	"thermograph/api"
	"thermograph/bloom"
	"thermograph/disk"
	"thermograph/index"
	"thermograph/tsz"
)

// Reader reads a volume as it was when it was opened.
type Reader struct {
	block int
	files map[string][]byte // by part
}

// Open returns a reader of a valid volume.
func Open(d *disk.Disk, k Key) (*Reader, api.Errno) {
	if !permitted(k) {
		return nil, api.ErrArg
	}
	if !Valid(d, k) {
		return nil, api.ErrNone
	}
	t, _ := read(d, k)
	r := &Reader{block: k.Block, files: map[string][]byte{}}
	for i, part := range parts {
		r.files[part] = []byte(t[i])
	}
	return r, api.OK
}

// IDs returns all names in order.
func (r *Reader) IDs() []string {
	entries, _ := index.List(r.files["index"])
	var ids []string
	for _, e := range entries {
		ids = append(ids, e.ID)
	}
	return ids
}

// Read returns the points of a series.
func (r *Reader) Read(id string) ([]api.Point, bool) {
	_, points, ok := r.find(id)
	return points, ok
}

// Meta tells of a series.
func (r *Reader) Meta(id string) (api.Meta, bool) {
	e, points, ok := r.find(id)
	if !ok {
		return api.Meta{}, false
	}
	return api.Meta{ID: id, Block: r.block, Count: len(points), Sum: e.Sum}, true
}

// find returns the entry of a series and its points.
func (r *Reader) find(id string) (index.Entry, []api.Point, bool) {
	filter, err := bloom.Parse(r.files["bloom"])
	if err != api.OK || !filter.Has(id) {
		return index.Entry{}, nil, false
	}
	e, _, ok := index.Find(r.files["index"], r.files["summary"], id)
	data := r.files["data"]
	if !ok || e.Off+e.Size > len(data) {
		return index.Entry{}, nil, false
	}
	points, err := tsz.Decode(data[e.Off : e.Off+e.Size])
	if err != api.OK {
		return index.Entry{}, nil, false
	}
	return e, points, true
}
