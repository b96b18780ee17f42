package shard

import (
	"slices"
	"strconv"
	"strings"

	"thermograph/api"
	"thermograph/fileset"
)

// parts are the files of a volume.
var parts = [...]string{"info", "index", "summary", "bloom", "data", "digest", "check"}

// file is a file of the disk.
type file struct{ name, text string }

// volume is the valid one of a block with the greatest number.
type volume struct {
	number int
	reader *fileset.Reader
}

// volumes are what the files of a shard's volumes amount to.
type volumes struct {
	files []file
	keys  []fileset.Key  // of all valid ones, sorted
	last  map[int]volume // by block
}

// volumes returns the volumes that are on the disk now. To find them anew takes long, so it is
// done only if one of their files has changed.
func (s *Shard) volumes() volumes {
	files := s.files()
	if slices.Equal(files, s.seen.files) {
		return s.seen
	}
	s.seen = volumes{files: files, last: map[int]volume{}}
	for _, k := range fileset.List(s.d) {
		if k.Space != s.space || k.Shard != s.number {
			continue
		}
		s.seen.keys = append(s.seen.keys, k)
		if r, err := fileset.Open(s.d, k); err == api.OK {
			s.seen.last[k.Block] = volume{number: k.Volume, reader: r}
		}
	}
	return s.seen
}

// files returns the files of the shard's volumes.
func (s *Shard) files() []file {
	prefix := "v" + strconv.Itoa(s.space) + "-" + strconv.Itoa(s.number) + "-"
	var files []file
	for _, name := range s.d.Names() {
		if strings.HasPrefix(name, prefix) {
			text, _ := s.d.Read(name)
			files = append(files, file{name: name, text: text})
		}
	}
	return files
}

// expire removes the points and the volumes of the blocks that ended by the cutoff.
func (s *Shard) expire(cutoff int) api.Errno {
	keys := s.volumes().keys
	removed := 0
	for block := range s.blocks() {
		if s.end(block) > cutoff {
			break
		}
		s.buffer.Drop(block)
		for _, k := range keys {
			if k.Block != block {
				continue
			}
			if err := s.remove(k); err != api.OK {
				return err
			}
			removed++
		}
	}
	if removed == 0 {
		return api.OK
	}
	return s.d.Sync()
}

// remove removes the files of a volume.
func (s *Shard) remove(k fileset.Key) api.Errno {
	for _, part := range parts {
		name, _ := fileset.Name(k, part)
		if err := s.d.Remove(name); err != api.OK {
			return err
		}
	}
	return api.OK
}

// key names a volume of the shard.
func (s *Shard) key(block, number int) fileset.Key {
	return fileset.Key{Space: s.space, Shard: s.number, Block: block, Volume: number}
}
