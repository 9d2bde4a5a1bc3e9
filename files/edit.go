package files

import (
	"bytes"
	"maps"

	"syngraph/api"
)

// fits tells whether each edit may be made, but for what the files would be then.
func (s *Store) fits(l []Edit) api.Errno {
	earlier := map[string]struct{}{}
	for _, c := range l {
		if !Name(c.Name) {
			return api.ErrName
		}
		if _, twice := earlier[c.Name]; twice {
			return api.ErrTwice
		}
		if _, is := s.files[c.Name]; c.Gone && !is {
			return api.ErrNone
		}
		earlier[c.Name] = struct{}{}
	}
	return api.OK
}

// edited tells the files that there would be. Those of the store stay as they are, as the edits may be refused yet.
func (s *Store) edited(l []Edit) map[string][]byte {
	next := maps.Clone(s.files)
	for _, c := range l {
		if c.Gone {
			delete(next, c.Name)
		} else {
			next[c.Name] = bytes.Clone(c.Data)
		}
	}
	return next
}
