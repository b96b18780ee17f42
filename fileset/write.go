package fileset

import (
	"strings"

	"thermograph/api"
	"thermograph/bits"
	"thermograph/bloom"
	"thermograph/digest"
	"thermograph/disk"
	"thermograph/index"
	"thermograph/tsz"
)

const maxSeries = 256

// Write writes a volume; check comes last and alone, so that it vouches for the others.
func Write(d *disk.Disk, k Key, l []api.Series) api.Errno {
	if err := checkAll(k, l); err != api.OK {
		return err
	}
	t, err := compose(k, l)
	if err != api.OK {
		return err
	}
	if err := discard(d, k); err != api.OK {
		return err
	}
	err = store(d, k, t)
	if err == api.ErrFull {
		discard(d, k)
		d.Sync()
	}
	return err
}

func checkAll(k Key, l []api.Series) api.Errno {
	if !permitted(k) {
		return api.ErrArg
	}
	if len(l) > maxSeries {
		return api.ErrMany
	}
	for i, s := range l {
		if len(s.ID) < 1 || len(s.ID) > api.MaxID {
			return api.ErrID
		}
		if i > 0 && s.ID <= l[i-1].ID {
			return api.ErrOrder
		}
		if err := tsz.Check(s.Points); err != api.OK {
			return err
		}
	}
	return api.OK
}

// compose returns the contents of all parts.
func compose(k Key, l []api.Series) (texts, api.Errno) {
	var ids []string
	var entries []index.Entry
	var data []byte
	for _, s := range l {
		b, err := tsz.Encode(s.Points)
		if err != api.OK {
			return texts{}, err
		}
		ids = append(ids, s.ID)
		entries = append(entries, index.Entry{ID: s.ID, Off: len(data), Size: len(b), Sum: digest.Adler(b)})
		data = append(data, b...)
	}
	places, summary, err := index.Encode(entries)
	if err != api.OK {
		return texts{}, err
	}
	filter, err := bloom.Build(ids)
	if err != api.OK {
		return texts{}, err
	}
	t := texts{info(k, len(l)), string(places), string(summary), string(filter.Bytes()), string(data)}
	t[digestPart] = t.sums()
	t[checkPart] = sum(t[digestPart])
	return t, api.OK
}

func info(k Key, series int) string {
	var b []byte
	for _, n := range []int{k.Space, k.Shard, k.Block, k.Volume, series} {
		b = bits.Uvarint(b, uint64(n))
	}
	return string(b)
}

// sums returns what digest has to contain.
func (t texts) sums() string {
	var all strings.Builder
	for _, text := range t[:summed] {
		all.WriteString(sum(text))
	}
	return all.String()
}

func sum(text string) string {
	n := digest.Adler([]byte(text))
	return string([]byte{byte(n >> 24), byte(n >> 16), byte(n >> 8), byte(n)})
}

// discard removes the files of a volume.
func discard(d *disk.Disk, k Key) api.Errno {
	for _, part := range parts {
		file := name(k, part)
		if _, ok := d.Read(file); !ok {
			continue
		}
		if err := d.Remove(file); err != api.OK {
			return err
		}
	}
	return api.OK
}

// store appends the parts: check only when the others are permanent.
func store(d *disk.Disk, k Key, t texts) api.Errno {
	for i, part := range parts {
		if i == checkPart {
			if err := d.Sync(); err != api.OK {
				return err
			}
		}
		if err := d.Append(name(k, part), t[i]); err != api.OK {
			return err
		}
	}
	return d.Sync()
}
