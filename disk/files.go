package disk

import (
	"maps"
	"slices"
	"strings"
)

// files are contents by name. A content only grows, so what was read of it stays.
type files struct {
	texts map[string]*strings.Builder
	used  int
}

func newFiles() *files {
	return &files{texts: map[string]*strings.Builder{}}
}

func (f *files) has(name string) bool {
	return f.texts[name] != nil
}

func (f *files) read(name string) (string, bool) {
	text := f.texts[name]
	if text == nil {
		return "", false
	}
	return text.String(), true
}

func (f *files) names() []string {
	return slices.Sorted(maps.Keys(f.texts))
}

func (f *files) add(name, s string) {
	if !f.has(name) {
		f.texts[name] = &strings.Builder{}
	}
	f.texts[name].WriteString(s)
	f.used += len(s)
}

func (f *files) move(from, to string) {
	if from == to {
		return
	}
	f.remove(to)
	f.texts[to] = f.texts[from]
	delete(f.texts, from)
}

func (f *files) remove(name string) {
	if !f.has(name) {
		return
	}
	f.used -= f.texts[name].Len()
	delete(f.texts, name)
}

func (f *files) clone() *files {
	c := newFiles()
	for name, text := range f.texts {
		c.add(name, text.String())
	}
	return c
}
