package fileset

import (
	"cmp"
	"strconv"
	"strings"

	"thermograph/api"
)

const maxVolume = 999999

// parts are the files of a volume, in the order in which they are written.
var parts = [...]string{"info", "index", "summary", "bloom", "data", "digest", "check"}

const (
	summed     = 5 // parts of which digest has the checksums
	digestPart = 5 // where the last two stand
	checkPart  = 6
)

// Key names a volume.
type Key struct{ Space, Shard, Block, Volume int }

// Name returns the name of the file of a part.
func Name(k Key, part string) (string, api.Errno) {
	if !permitted(k) || !isPart(part) {
		return "", api.ErrArg
	}
	return name(k, part), api.OK
}

// name returns the name of the file of a part, of whatever key.
func name(k Key, part string) string {
	numbers := []string{strconv.Itoa(k.Space), strconv.Itoa(k.Shard), strconv.Itoa(k.Block), strconv.Itoa(k.Volume)}
	return "v" + strings.Join(numbers, "-") + "." + part
}

// parse returns the key and the part whose name it is.
func parse(file string) (Key, string, bool) {
	stem, part, _ := strings.Cut(file, ".")
	numbers := strings.Split(strings.TrimPrefix(stem, "v"), "-")
	if len(numbers) != 4 {
		return Key{}, "", false
	}
	var k Key
	for i, field := range []*int{&k.Space, &k.Shard, &k.Block, &k.Volume} {
		n, err := strconv.Atoi(numbers[i])
		if err != nil {
			return Key{}, "", false
		}
		*field = n
	}
	if !permitted(k) || !isPart(part) || name(k, part) != file {
		return Key{}, "", false
	}
	return k, part, true
}

func permitted(k Key) bool {
	return k.Space >= 0 && k.Space < api.MaxSpaces &&
		k.Shard >= 0 && k.Shard < api.MaxShards &&
		k.Block >= 0 && k.Block <= api.MaxTime &&
		k.Volume >= 1 && k.Volume <= maxVolume
}

func isPart(part string) bool {
	for _, p := range parts {
		if p == part {
			return true
		}
	}
	return false
}

func compare(a, b Key) int {
	return cmp.Or(cmp.Compare(a.Space, b.Space), cmp.Compare(a.Shard, b.Shard), cmp.Compare(a.Block, b.Block), cmp.Compare(a.Volume, b.Volume))
}

// block returns the key without the number of the volume.
func (k Key) block() Key {
	k.Volume = 0
	return k
}
