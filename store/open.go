package store

import (
	"errors"

	"clerestory/api"
	"clerestory/note"
	"clerestory/pack"
	"clerestory/segment"
	"clerestory/shelf"
	"clerestory/sst"
)

// Open is the store that a shelf has.
func Open(d *shelf.Shelf) (*Store, api.Errno) {
	s := &Store{disk: d, all: make(tables), since: make(tables), notes: note.New()}
	if err := s.load(); err != nil {
		return nil, number(err)
	}
	// the shelf is touched behind all that may be refused
	d.Cut(s.replay())
	s.drop(d.Nums(), s.files)
	return s, api.OK
}

// load is what comes of the man.
func (s *Store) load() error {
	text := s.disk.Man()
	if text == "" {
		return nil
	}
	m, err := getMan(text)
	if err != nil {
		return err
	}
	if err := s.loadFiles(m.files); err != nil {
		return err
	}
	for _, x := range m.notes {
		s.notes.Add(x)
	}
	s.files, s.last = m.files, m.last
	return nil
}

// loadFiles joins files. That one is not there is told only if none of the others is wrong.
func (s *Store) loadFiles(files []int) error {
	var missing error
	for _, n := range files {
		err := s.loadFile(n)
		switch {
		case errors.Is(err, errNone):
			missing = err
		case err != nil:
			return err
		}
	}
	return missing
}

// loadFile joins a file to what there is.
func (s *Store) loadFile(n int) error {
	body, e := s.disk.Get(n)
	if e != api.OK {
		return errNone
	}
	name, e := sst.Table(body)
	if e != api.OK {
		return errBytes
	}
	parts, e := sst.All(body)
	if e != api.OK {
		return errBytes
	}
	var muts []api.Mut
	for _, p := range parts {
		muts = append(muts, api.Mut{Table: name, Part: p})
	}
	turned, ok := s.all.join(muts)
	if !ok {
		return errBytes // no store has more than there is room for
	}
	s.all.take(turned)
	return nil
}

// replay is what comes of the log's records up to the first that is none; it answers where these end.
func (s *Store) replay() int {
	bodies, _ := segment.Scan([]byte(s.disk.Log()))
	end := 0
	for _, body := range bodies {
		b, e := pack.GetBatch([]byte(body))
		if e != api.OK {
			break
		}
		turned, err := s.turned(b)
		if err != nil {
			break
		}
		s.keep(b, turned)
		end += len(lay(end, body))
	}
	return end
}
