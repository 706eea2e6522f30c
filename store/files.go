package store

import (
	"slices"

	"clerestory/api"
	"clerestory/sst"
)

const maxFiles = 24 // that a Flush leaves

// Flush writes what came since the last one.
func (s *Store) Flush() api.Errno {
	return number(s.flush())
}

func (s *Store) flush() error {
	if len(s.files)+len(s.since) > maxFiles {
		// at once, not behind a Turn of its own: so an error leaves all as it was
		return s.squash()
	}
	return s.write(s.since, s.files)
}

// Squash makes all files of a table one.
func (s *Store) Squash() api.Errno {
	return number(s.squash())
}

func (s *Store) squash() error {
	return s.write(s.all, nil)
}

// write makes tables files; they, and those that stay, are all that count then.
func (s *Store) write(t tables, stay []int) error {
	m := man{files: slices.Clone(stay), last: s.last, notes: s.notes.All()}
	err := s.putFiles(t, &m)
	if err == nil {
		err = s.turn(m)
	}
	if err != nil {
		s.drop(m.files, s.files)
		return err
	}
	s.drop(s.files, m.files)
	s.files, s.last, s.since = m.files, m.last, make(tables)
	return nil
}

// putFiles puts each table in a file of its own, which the man names from then on.
func (s *Store) putFiles(t tables, m *man) error {
	for _, name := range t.names() {
		body, e := sst.Put(name, t.list(name))
		if e != api.OK {
			return errBig
		}
		n := s.free(m.last)
		if s.disk.Put(n, body) != api.OK {
			return errBig
		}
		m.files, m.last = append(m.files, n), n
	}
	return nil
}

// free is the next number that no file on the shelf has: others than the store's may lie there, too.
func (s *Store) free(last int) int {
	for n := last + 1; ; n++ {
		if _, e := s.disk.Get(n); e == api.ErrNone {
			return n
		}
	}
}

// turn makes a man the shelf's.
func (s *Store) turn(m man) error {
	text, err := putMan(m)
	if err != nil {
		return err
	}
	if s.disk.Turn(text) != api.OK {
		return errBig
	}
	return nil
}

// drop makes files go, but those that stay.
func (s *Store) drop(files, stay []int) {
	for _, n := range files {
		if !slices.Contains(stay, n) {
			s.disk.Drop(n)
		}
	}
}
